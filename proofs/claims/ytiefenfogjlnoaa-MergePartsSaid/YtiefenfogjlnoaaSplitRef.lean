/-
  The contract of the document's Split.
-/
import Derived.Test.YtiefenfogjlnoaaSplit
namespace Go.Proofs.Ytiefenfogjlnoaa
open Go.RowKit

set_option maxRecDepth 100000 in
set_option maxHeartbeats 2000000 in
theorem refSplit_any (w : World) (s : ByteArray) (hs : s.size ≤ 1000000) :
    Calls Try.prog 13 #[.string s] w (Lines w.heap.size w (cutL s.data.toList)) := by
  obtain ⟨i0, hi, hz0, hz1, hz2⟩ := info_parts strInfo
  have hsz : s.data.toList.length = s.size := by rw [Array.length_toList]; rfl
  have HSZ := Lib.hid hsz
  clear hsz
  go_enter Try.func13, Try.ntmps13
  go_wp2_with fail
  go_loopw [3, 4, 5] (fun v b i wr => ∃ k q : Nat, k ≤ s.size ∧ i = .int .i64 k ∧ b = .int .i64 q ∧ q ≤ k ∧ At s.data.toList k q ∧ Own w.heap.size s k v wr ∧ Below w.heap.size w wr) (fun _ _ i _ => s.size - (intOf i).toNat)
  case atStart => exact ⟨0, 0, Nat.zero_le _, rfl, rfl, Nat.le_refl _, At.zero _, World.ownsRow_nil _ _ _ _, Below.refl _ _⟩
  case round =>
    obtain ⟨k, q, hk, rfl, rfl, hqk, hat, hown, hb⟩ := hrel
    have HA := Lib.hid hat
    clear hat
    by_cases hlt : k < s.size
    · have hl : k < s.data.toList.length := by rw [HSZ.out]; exact hlt
      by_cases hc : s[k] = 10
      · have hc' : s.data.toList[k] = 10 := hc
        have hA := HA.out.ended hl hc'
        have HE := Lib.hid hA
        have ht : ((s[k].toNat : Int) == 10) = true := by rw [hc]; rfl
        have hst := st_len s.data.toList k
        unfold Own at hown
        clear hA hc hc'
        go_wp2_with (at_builtin; refine wpList_append_own _ rfl _ _ 28 rfl w.heap.size 9 i0 (.string { data := #[] }) 1 16 Try.underlying28 hi hz0 hz1 hz2 rfl (by decide) _ _ _ rfl (hown.alloc _) ⟨wr.heap.size, 0, none⟩ 1 1 [.string (s.extract q (k + 1))] rfl ?c1 ?c2 ?c3 ?c4 ?c5 ?c6 ?_)
        case c1 => rfl
        case c2 => exact cell_one_new _ _ _
        case c3 => intro u hu; simp at hu; subst hu; rfl
        case c4 => unfold maxLen; omega
        case c5 => omega
        case c6 => have := hb.size; simp; omega
        intro v' w2 hown2 hg2 _
        have hb2 := (hb.alloc hb.size _).grown hg2 (by have := hb.size; simp; omega) fun z hz => (hown.lt z hz).1
        clear hg2 hown hb
        go_wp2
        go_roundw
        case rel =>
          refine ⟨k + 1, k + 1, by omega, by go_num, by go_num, by omega, HE.out.1, ?_, hb2⟩
          unfold Own
          rw [HE.out.2]
          simpa [extract_mk] using hown2
        case measure => simp [intOf]; omega
      · have hc' : s.data.toList[k] ≠ 10 := hc
        have hA := HA.out.more hl hc'
        have HE := Lib.hid hA
        have ht : ((s[k].toNat : Int) == 10) = false := by
          rw [beq_eq_false_iff_ne]
          intro e
          exact hc (UInt8.toNat_inj.1 (show s[k].toNat = 10 by omega))
        clear hA hc hc'
        go_wp2
        go_roundw
        case rel =>
          refine ⟨k + 1, q, by omega, by go_num, rfl, by omega, HE.out.1, ?_, hb⟩
          unfold Own
          rw [HE.out.2]
          exact hown
        case measure => simp [intOf]; omega
    · obtain rfl : k = s.size := by omega
      have hall : s.data.toList.take s.size = s.data.toList := List.take_of_length_le (by rw [HSZ.out]; omega)
      have hst := st_len s.data.toList s.size
      unfold Own at hown
      rw [hall] at hown hst
      have hat := HA.out
      unfold At at hat
      rw [hall] at hat
      have hrest : s.extract q s.size = mk (st s.data.toList).2 := by rw [extract_mk, hall, hat.2]
      have HR := Lib.hid hrest
      have hcl : cutL s.data.toList = if q < s.size then (st s.data.toList).1 ++ [(st s.data.toList).2] else (st s.data.toList).1 := by
        have hl := HSZ.out
        unfold cutL close
        by_cases hq : q < s.size
        · rw [if_pos hq, if_neg]
          rw [hat.2]
          intro e
          have := congrArg List.length e
          simp at this
          omega
        · rw [if_neg hq, if_pos]
          rw [hat.2]
          exact List.drop_eq_nil_of_le (by omega)
      have HC := Lib.hid hcl
      clear hall hat hrest hcl HA HSZ
      by_cases hq : q < s.size
      · go_wp2_with (at_builtin; refine wpList_append_own _ rfl _ _ 28 rfl w.heap.size 9 i0 (.string { data := #[] }) 1 16 Try.underlying28 hi hz0 hz1 hz2 rfl (by decide) _ _ _ rfl (hown.alloc _) ⟨wr.heap.size, 0, none⟩ 1 1 [.string (s.extract q s.size)] rfl ?d1 ?d2 ?d3 ?d4 ?d5 ?d6 ?_)
        case d1 => rfl
        case d2 => exact cell_one_new _ _ _
        case d3 => intro u hu; simp at hu; subst hu; rfl
        case d4 => unfold maxLen; omega
        case d5 => omega
        case d6 => have := hb.size; simp; omega
        intro v' w2 hown2 hg2 _
        have hb2 := (hb.alloc hb.size _).grown hg2 (by have := hb.size; simp; omega) fun z hz => (hown.lt z hz).1
        clear hg2 hown hb
        go_wp2
        go_ret
        refine ⟨v', rfl, ?_, hb2⟩
        rw [HC.out, if_pos hq]
        rw [HR.out] at hown2
        simpa using hown2
      · go_wp2
        go_ret
        refine ⟨_, rfl, ?_, hb⟩
        rw [HC.out, if_neg hq]
        exact hown

end Go.Proofs.Ytiefenfogjlnoaa
