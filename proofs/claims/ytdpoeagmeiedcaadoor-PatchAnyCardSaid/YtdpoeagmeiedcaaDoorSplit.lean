/-
  Contracts of lines.Split and the document's Split: the same lines.
-/
import Derived.Test.YtdpoeagmeiedcaaDoorBase
import Derived.Test.YtdpoeagmeiedcaaDoorText
import Derived.LoopTactic
import Derived.WalkLawsBesides
import Derived.Outline
namespace Go.Proofs.YtdpoeagmeiedcaaDoor
open Go.RowKit

theorem strInfo : (Tryd.prog.info? 9).map (fun i => (i.zero, i.size, i.bytes)) = some (some (.string { data := #[] }), 1, 16) := by kernel_rfl

/-- Bytes as a string. -/
def mk (l : List UInt8) : ByteArray := ⟨l.toArray⟩
theorem mk_toList (s : ByteArray) : mk s.data.toList = s := by cases s; simp [mk]

/-- The lines in new memory of the call's own, or nil. -/
def Lines (B : Nat) (w : World) (ls : List (List UInt8)) (e : Ending) (w' : World) : Prop :=
  ∃ v, e = .returned v ∧ w'.ownsRow B 9 1 v ls.length ((ls.map mk).map Value.string) ∧ Below w.heap.size w w'

/-- The state of the loop behind k bytes: the line that is not ended begins at b. -/
def At (l : List UInt8) (k b : Nat) : Prop := b ≤ k ∧ (st (l.take k)).2 = (l.take k).drop b

theorem At.zero (l : List UInt8) : At l 0 0 := ⟨Nat.le_refl _, rfl⟩
theorem take_one (l : List UInt8) (k : Nat) (h : k < l.length) : l.take (k + 1) = l.take k ++ [l[k]] := by
  rw [List.take_succ_eq_append_getElem h]
theorem At.ended {l : List UInt8} {k b : Nat} (h : At l k b) (hk : k < l.length) (hc : l[k] = 10) :
    At l (k + 1) (k + 1) ∧ (st (l.take (k + 1))).1 = (st (l.take k)).1 ++ [(l.take (k + 1)).drop b] := by
  obtain ⟨hb, h2⟩ := h
  have e : st (l.take (k + 1)) = step (st (l.take k)) 10 := by rw [take_one l k hk, st_snoc, hc]
  have e2 : (l.take (k + 1)).drop b = (st (l.take k)).2 ++ [10] := by
    rw [take_one l k hk, hc, List.drop_append_of_le_length (by rw [List.length_take]; omega), h2]
  rw [e2, At, e]
  unfold step
  simp only [if_true]
  refine ⟨⟨Nat.le_refl _, ?_⟩, trivial⟩
  rw [List.drop_eq_nil_of_le (by rw [List.length_take]; omega)]
theorem At.more {l : List UInt8} {k b : Nat} (h : At l k b) (hk : k < l.length) (hc : l[k] ≠ 10) :
    At l (k + 1) b ∧ (st (l.take (k + 1))).1 = (st (l.take k)).1 := by
  obtain ⟨hb, h2⟩ := h
  have e : st (l.take (k + 1)) = step (st (l.take k)) l[k] := by rw [take_one l k hk, st_snoc]
  rw [At, e]
  unfold step
  rw [if_neg hc]
  refine ⟨⟨by omega, ?_⟩, rfl⟩
  rw [take_one l k hk, List.drop_append_of_le_length (by rw [List.length_take]; omega), h2]

theorem extract_mk (s : ByteArray) (a b : Nat) : s.extract a b = mk ((s.data.toList.take b).drop a) := by
  apply ByteArray.ext
  apply Array.toList_inj.1
  rw [ByteArray.data_extract, Array.toList_extract, List.extract_eq_take_drop]
  simp [mk, List.drop_take]

/-- What the loop owns behind k bytes. -/
def Own (B : Nat) (s : ByteArray) (k : Nat) (v : Value) (wr : World) : Prop :=
  wr.ownsRow B 9 1 v (st (s.data.toList.take k)).1.length (((st (s.data.toList.take k)).1.map mk).map Value.string)

theorem st_len (l : List UInt8) (k : Nat) : (st (l.take k)).1.length ≤ k := by
  induction k with
  | zero => simp [st]
  | succ k ih =>
    by_cases h : k < l.length
    · rw [take_one l k h, st_snoc]
      unfold step
      split
      · simp; omega
      · simp; omega
    · rw [List.take_of_length_le (by omega)] at ih ⊢
      omega

set_option maxRecDepth 100000 in
set_option maxHeartbeats 2000000 in
theorem split_any (w : World) (s : ByteArray) (hs : s.size ≤ 1000000) :
    Calls Tryd.prog 83 #[.string s] w (Lines w.heap.size w (cutL s.data.toList)) := by
  obtain ⟨i0, hi, hz0, hz1, hz2⟩ := info_parts strInfo
  have hsz : s.data.toList.length = s.size := by rw [Array.length_toList]; rfl
  have HSZ := Lib.hid hsz
  clear hsz
  go_enter Tryd.func83, Tryd.ntmps83
  go_wp2_with fail
  go_loopw [3, 4, 5, 8] (fun v b _ i wr => ∃ k q : Nat, k ≤ s.size ∧ i = .int .i64 k ∧ b = .int .i64 q ∧ q ≤ k ∧ At s.data.toList k q ∧ Own w.heap.size s k v wr ∧ Below w.heap.size w wr) (fun _ _ _ i _ => s.size - (intOf i).toNat)
  case atStart => exact ⟨0, 0, Nat.zero_le _, rfl, rfl, Nat.le_refl _, At.zero _, World.ownsRow_nil _ _ _ _, Below.refl _ _⟩
  case round =>
    obtain ⟨k, q, hk, rfl, rfl, hqk, hat, hown, hb⟩ := hrel
    have HA := Lib.hid hat
    clear hat
    by_cases hlt : k < s.size
    · have hl : k < s.data.toList.length := by rw [HSZ.out]; exact hlt
      by_cases hc : s[k] = 10
      · have hc' : s.data.toList[k] = 10 := hc
        have hA := HA.out.ended hl hc'
        have HE := Lib.hid hA
        have ht : ((s[k].toNat : Int) == 10) = true := by rw [hc]; rfl
        have hst := st_len s.data.toList k
        unfold Own at hown
        clear hA hc hc'
        go_wp2_with (at_builtin; refine wpList_append_own _ rfl _ _ 22 rfl w.heap.size 9 i0 (.string { data := #[] }) 1 16 Tryd.underlying22 hi hz0 hz1 hz2 rfl (by decide) _ _ _ rfl (hown.alloc _) ⟨wr.heap.size, 0, none⟩ 1 1 [.string (s.extract q (k + 1))] rfl ?c1 ?c2 ?c3 ?c4 ?c5 ?c6 ?_)
        case c1 => rfl
        case c2 => exact cell_one_new _ _ _
        case c3 => intro u hu; simp at hu; subst hu; rfl
        case c4 => unfold maxLen; omega
        case c5 => omega
        case c6 => have := hb.size; simp; omega
        intro v' w2 hown2 hg2 _
        have hb2 := (hb.alloc hb.size _).grown hg2 (by have := hb.size; simp; omega) fun z hz => (hown.lt z hz).1
        clear hg2 hown hb
        go_wp2
        go_roundw
        case rel =>
          refine ⟨k + 1, k + 1, by omega, by go_num, by go_num, by omega, HE.out.1, ?_, hb2⟩
          unfold Own
          rw [HE.out.2]
          simpa [extract_mk] using hown2
        case measure => simp [intOf]; omega
      · have hc' : s.data.toList[k] ≠ 10 := hc
        have hA := HA.out.more hl hc'
        have HE := Lib.hid hA
        have ht : ((s[k].toNat : Int) == 10) = false := by
          rw [beq_eq_false_iff_ne]
          intro e
          exact hc (UInt8.toNat_inj.1 (show s[k].toNat = 10 by omega))
        clear hA hc hc'
        go_wp2
        go_roundw
        case rel =>
          refine ⟨k + 1, q, by omega, by go_num, rfl, by omega, HE.out.1, ?_, hb⟩
          unfold Own
          rw [HE.out.2]
          exact hown
        case measure => simp [intOf]; omega
    · obtain rfl : k = s.size := by omega
      have hall : s.data.toList.take s.size = s.data.toList := List.take_of_length_le (by rw [HSZ.out]; omega)
      have hst := st_len s.data.toList s.size
      unfold Own at hown
      rw [hall] at hown hst
      have hat := HA.out
      unfold At at hat
      rw [hall] at hat
      have hrest : s.extract q s.size = mk (st s.data.toList).2 := by rw [extract_mk, hall, hat.2]
      have HR := Lib.hid hrest
      have hcl : cutL s.data.toList = if q < s.size then (st s.data.toList).1 ++ [(st s.data.toList).2] else (st s.data.toList).1 := by
        have hl := HSZ.out
        unfold cutL close
        by_cases hq : q < s.size
        · rw [if_pos hq, if_neg]
          rw [hat.2]
          intro e
          have := congrArg List.length e
          simp at this
          omega
        · rw [if_neg hq, if_pos]
          rw [hat.2]
          exact List.drop_eq_nil_of_le (by omega)
      have HC := Lib.hid hcl
      clear hall hat hrest hcl HA HSZ
      by_cases hq : q < s.size
      · go_wp2_with (at_builtin; refine wpList_append_own _ rfl _ _ 22 rfl w.heap.size 9 i0 (.string { data := #[] }) 1 16 Tryd.underlying22 hi hz0 hz1 hz2 rfl (by decide) _ _ _ rfl (hown.alloc _) ⟨wr.heap.size, 0, none⟩ 1 1 [.string (s.extract q s.size)] rfl ?d1 ?d2 ?d3 ?d4 ?d5 ?d6 ?_)
        case d1 => rfl
        case d2 => exact cell_one_new _ _ _
        case d3 => intro u hu; simp at hu; subst hu; rfl
        case d4 => unfold maxLen; omega
        case d5 => omega
        case d6 => have := hb.size; simp; omega
        intro v' w2 hown2 hg2 _
        have hb2 := (hb.alloc hb.size _).grown hg2 (by have := hb.size; simp; omega) fun z hz => (hown.lt z hz).1
        clear hg2 hown hb
        go_wp2
        go_ret
        refine ⟨v', rfl, ?_, hb2⟩
        rw [HC.out, if_pos hq]
        rw [HR.out] at hown2
        simpa using hown2
      · go_wp2
        go_ret
        refine ⟨_, rfl, ?_, hb⟩
        rw [HC.out, if_neg hq]
        exact hown

end Go.Proofs.YtdpoeagmeiedcaaDoor
