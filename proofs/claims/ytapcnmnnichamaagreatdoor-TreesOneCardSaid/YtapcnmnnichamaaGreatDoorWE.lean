/-
  The contract of the document's Split.
  The document's Join.
  rectoref11.ended, marked: lines, the last one with its end.
-/
import Derived.Test.YtapcnmnnichamaaGreatDoorVA
import Derived.Test.YtapcnmnnichamaaGreatDoorVC
import Derived.Test.YtapcnmnnichamaaGreatDoorVG

namespace Go.Proofs.YtapcnmnnichamaaGreatDoor.Mg
open Go.RowKit

set_option maxRecDepth 100000 in
set_option maxHeartbeats 2000000 in
theorem refSplit_any (w : World) (s : ByteArray) (hs : s.size ≤ 1000000) :
    Calls Tryz.prog 83 #[.string s] w (Lines w.heap.size w (cutL s.data.toList)) := by
  obtain ⟨i0, hi, hz0, hz1, hz2⟩ := info_parts strInfo
  have hsz : s.data.toList.length = s.size := by rw [Array.length_toList]; rfl
  have HSZ := Lib.hid hsz
  clear hsz
  go_enter Tryz.func83, Tryz.ntmps83
  go_wp2_with fail
  go_loopw [3, 4, 5] (fun v b i wr => ∃ k q : Nat, k ≤ s.size ∧ i = .int .i64 k ∧ b = .int .i64 q ∧ q ≤ k ∧ At s.data.toList k q ∧ Own w.heap.size s k v wr ∧ Below w.heap.size w wr) (fun _ _ i _ => s.size - (intOf i).toNat)
  case atStart => exact ⟨0, 0, Nat.zero_le _, rfl, rfl, Nat.le_refl _, At.zero _, World.ownsRow_nil _ _ _ _, Below.refl _ _⟩
  case round =>
    obtain ⟨k, q, hk, rfl, rfl, hqk, hat, hown, hb⟩ := hrel
    have HA := Lib.hid hat
    clear hat
    by_cases hlt : k < s.size
    · have hl : k < s.data.toList.length := by rw [HSZ.out]; exact hlt
      by_cases hc : s[k] = 10
      · have hc' : s.data.toList[k] = 10 := hc
        have hA := HA.out.ended hl hc'
        have HE := Lib.hid hA
        have ht : ((s[k].toNat : Int) == 10) = true := by rw [hc]; rfl
        have hst := st_len s.data.toList k
        unfold Own at hown
        clear hA hc hc'
        go_wp2_with (at_builtin; refine wpList_append_own _ rfl _ _ 27 rfl w.heap.size 9 i0 (.string { data := #[] }) 1 16 Tryz.underlying27 hi hz0 hz1 hz2 rfl (by decide) _ _ _ rfl (hown.alloc _) ⟨wr.heap.size, 0, none⟩ 1 1 [.string (s.extract q (k + 1))] rfl ?c1 ?c2 ?c3 ?c4 ?c5 ?c6 ?_)
        case c1 => rfl
        case c2 => exact cell_one_new _ _ _
        case c3 => intro u hu; simp at hu; subst hu; rfl
        case c4 => unfold maxLen; omega
        case c5 => omega
        case c6 => have := hb.size; simp; omega
        intro v' w2 hown2 hg2 _
        have hb2 := (hb.alloc hb.size _).grown hg2 (by have := hb.size; simp; omega) fun z hz => (hown.lt z hz).1
        clear hg2 hown hb
        go_wp2
        go_roundw
        case rel =>
          refine ⟨k + 1, k + 1, by omega, by go_num, by go_num, by omega, HE.out.1, ?_, hb2⟩
          unfold Own
          rw [HE.out.2]
          simpa [extract_mk] using hown2
        case measure => simp [intOf]; omega
      · have hc' : s.data.toList[k] ≠ 10 := hc
        have hA := HA.out.more hl hc'
        have HE := Lib.hid hA
        have ht : ((s[k].toNat : Int) == 10) = false := by
          rw [beq_eq_false_iff_ne]
          intro e
          exact hc (UInt8.toNat_inj.1 (show s[k].toNat = 10 by omega))
        clear hA hc hc'
        go_wp2
        go_roundw
        case rel =>
          refine ⟨k + 1, q, by omega, by go_num, rfl, by omega, HE.out.1, ?_, hb⟩
          unfold Own
          rw [HE.out.2]
          exact hown
        case measure => simp [intOf]; omega
    · obtain rfl : k = s.size := by omega
      have hall : s.data.toList.take s.size = s.data.toList := List.take_of_length_le (by rw [HSZ.out]; omega)
      have hst := st_len s.data.toList s.size
      unfold Own at hown
      rw [hall] at hown hst
      have hat := HA.out
      unfold At at hat
      rw [hall] at hat
      have hrest : s.extract q s.size = mk (st s.data.toList).2 := by rw [extract_mk, hall, hat.2]
      have HR := Lib.hid hrest
      have hcl : cutL s.data.toList = if q < s.size then (st s.data.toList).1 ++ [(st s.data.toList).2] else (st s.data.toList).1 := by
        have hl := HSZ.out
        unfold cutL close
        by_cases hq : q < s.size
        · rw [if_pos hq, if_neg]
          rw [hat.2]
          intro e
          have := congrArg List.length e
          simp at this
          omega
        · rw [if_neg hq, if_pos]
          rw [hat.2]
          exact List.drop_eq_nil_of_le (by omega)
      have HC := Lib.hid hcl
      clear hall hat hrest hcl HA HSZ
      by_cases hq : q < s.size
      · go_wp2_with (at_builtin; refine wpList_append_own _ rfl _ _ 27 rfl w.heap.size 9 i0 (.string { data := #[] }) 1 16 Tryz.underlying27 hi hz0 hz1 hz2 rfl (by decide) _ _ _ rfl (hown.alloc _) ⟨wr.heap.size, 0, none⟩ 1 1 [.string (s.extract q s.size)] rfl ?d1 ?d2 ?d3 ?d4 ?d5 ?d6 ?_)
        case d1 => rfl
        case d2 => exact cell_one_new _ _ _
        case d3 => intro u hu; simp at hu; subst hu; rfl
        case d4 => unfold maxLen; omega
        case d5 => omega
        case d6 => have := hb.size; simp; omega
        intro v' w2 hown2 hg2 _
        have hb2 := (hb.alloc hb.size _).grown hg2 (by have := hb.size; simp; omega) fun z hz => (hown.lt z hz).1
        clear hg2 hown hb
        go_wp2
        go_ret
        refine ⟨v', rfl, ?_, hb2⟩
        rw [HC.out, if_pos hq]
        rw [HR.out] at hown2
        simpa using hown2
      · go_wp2
        go_ret
        refine ⟨_, rfl, ?_, hb⟩
        rw [HC.out, if_neg hq]
        exact hown

end Go.Proofs.YtapcnmnnichamaaGreatDoor.Mg

namespace Go.Proofs.YtapcnmnnichamaaGreatDoor.Mg
open Go.RowKit

set_option maxHeartbeats 2000000 in
/-- The document's Join. -/
theorem refJoin_any (w : World) (v : Value) (xs : List ByteArray) (h : Strs w v xs) (hl : (cat xs).length ≤ 2000000) :
    Calls Tryz.prog 84 #[v] w fun e w' => e = .returned (.string (mk (cat xs))) ∧ w = w' := by
  obtain ⟨A, n, c, rfl⟩ := h.form
  have hn := h.len
  have hb1 : n ≤ 9223372036854775807 := by have := hn.2; unfold maxLen at this; omega
  have HH := Lib.hid (fun k (hk : k < n) => h.cell hk)
  have HN := Lib.hid hn.1
  clear h hn
  go_enter Tryz.func84, Tryz.ntmps84
  go_wp2
  go_loopw [3, 4] (fun s i wr => ∃ k : Nat, k ≤ n ∧ i = .int .i64 k ∧ s = .string (mk (cat (xs.take k))) ∧ wr = w) (fun _ i _ => n - (intOf i).toNat)
  case atStart => exact ⟨0, Nat.zero_le _, rfl, rfl, rfl⟩
  case round =>
    obtain ⟨k, hk, rfl, rfl, rfl⟩ := hrel
    by_cases hlt : k < n
    · obtain ⟨a, x, rfl, hx, hc1⟩ := HH.out k hlt
      have hi0 : (0 : Int) ≤ (k : Int) := Int.natCast_nonneg _
      have hi1 : (k : Int) < (n : Int) := by omega
      have ht := cat_take xs k x hx
      have hs1 : (mk (cat (xs.take k))).size ≤ 2000000 := by rw [mk_size]; have := cat_le xs k; omega
      have hs2 : x.size ≤ 2000000 := by
        have h2 : (mk (cat (xs.take (k + 1)))).size ≤ 2000000 := by rw [mk_size]; have := cat_le xs (k + 1); omega
        rw [ht, ByteArray.size_append] at h2
        omega
      have HT := Lib.hid ht
      clear ht hx
      generalize mk (cat (xs.take k)) = p at *
      go_wp2
      go_roundw
      case rel => exact ⟨k + 1, by omega, by go_num, by rw [HT.out], trivial⟩
      case measure => simp [intOf]; omega
    · obtain rfl : k = n := by omega
      have hall : xs.take k = xs := List.take_of_length_le (by rw [← HN.out]; omega)
      rw [hall]
      clear hall
      go_wp2
      go_ret
      exact ⟨rfl, rfl⟩

end Go.Proofs.YtapcnmnnichamaaGreatDoor.Mg

namespace Go.Proofs.YtapcnmnnichamaaGreatDoor.Mg
open Go Go.RowKit

theorem mk_dataR (s : ByteArray) : mk s.data.toList = s := by apply ByteArray.ext; simp [mk]
theorem endL_yes {s : ByteArray} (h : wholeL s.data.toList = true) : mk (endL s.data.toList) = s := by
  unfold endL
  rw [if_pos h, mk_dataR]
theorem endL_no {s : ByteArray} (h : wholeL s.data.toList ≠ true) : mk (endL s.data.toList) = s ++ ⟨#[10]⟩ := by
  unfold endL
  rw [if_neg h]
  apply ByteArray.ext
  apply Array.toList_inj.1
  simp [mk]

attribute [-go_sem] run_string_add_if
set_option maxHeartbeats 1000000 in
theorem ended_m (s : ByteArray) (w : World) (h0 : 0 < s.size) (hs : s.size ≤ 1000000) : Calls Tryz.prog 115 #[.string s] w fun e w' => e = .returned (.string (mk (endL s.data.toList))) ∧ w = w' := by
  have hz : (ByteArray.mk #[10]).size = 1 := rfl
  obtain ⟨s1, e1, n1, p1⟩ := sum_namedM s ⟨#[10]⟩ (by omega)
  obtain ⟨n, hn⟩ : ∃ n, s.size = n + 1 := ⟨s.size - 1, by omega⟩
  have hl : n < s.size := by omega
  have hll : n < s.data.toList.length := by rw [size_data]; exact hl
  have hlast : s.data.toList.getLast? = some s[n] := by
    rw [List.getLast?_eq_getElem?, size_data, hn, Nat.add_sub_cancel, List.getElem?_eq_getElem hll]
    rfl
  have hw : wholeL s.data.toList = (s[n] == 10) := by unfold wholeL; rw [hlast]; rfl
  by_cases hc : s[n] = 10
  · have hE : Hid (mk (endL s.data.toList) = s) := Lib.hid (endL_yes (by rw [hw, hc]; rfl))
    have ht : ((s[n].toNat : Int) == 10) = true := by rw [hc]; rfl
    rw [hE.out]
    clear hlast hc e1 n1 hz h0 hw
    go_enter Tryz.func115, Tryz.ntmps115
    go_wp2_with fail
    go_ret
    exact ⟨rfl, rfl⟩
  · have hE : Hid (mk (endL s.data.toList) = s1) := Lib.hid (by
      rw [e1]
      refine endL_no ?_
      rw [hw]
      intro e
      exact hc (by simpa using e))
    have ht : ((s[n].toNat : Int) == 10) = false := by
      rw [beq_eq_false_iff_ne]
      intro e
      exact hc (UInt8.toNat_inj.1 (show s[n].toNat = 10 by omega))
    rw [hE.out]
    clear hlast hc e1 n1 hz h0 hw
    go_enter Tryz.func115, Tryz.ntmps115
    go_wp2_with fail
    go_ret
    exact ⟨rfl, rfl⟩

set_option maxHeartbeats 1000000 in
theorem marked_m (w : World) (v : Value) (xs : List ByteArray) (h : Strs w v xs) (hl : (cat xs).length ≤ 900000) :
    Calls Tryz.prog 85 #[v] w fun e w' => e = .returned (.string (mk (endL (cat xs)))) ∧ w = w' := by
  have J := Lib.hid (refJoin_any w v xs h (by omega))
  have hd : (mk (cat xs)).data.toList = cat xs := by simp [mk]
  have E := fun hp => ended_m (mk (cat xs)) w hp (by rw [mk_size]; omega)
  rw [hd] at E
  rw [mk_size] at E
  by_cases hc : cat xs = []
  · have he : endL (cat xs) = [] := by rw [hc]; rfl
    rw [he]
    rw [hc] at J
    clear E hd he hc h hl
    go_enter Tryz.func85, Tryz.ntmps85
    go_wp2_with fail
    refine J.out.mono ?_
    rintro e w1 ⟨rfl, rfl⟩
    have hb : (mk [] : ByteArray) = ⟨#[]⟩ := rfl
    rw [hb]
    go_wp2_with fail
    go_ret
    exact ⟨rfl, rfl⟩
  · have hpos : 0 < (cat xs).length := List.length_pos_iff.2 hc
    have E1 := Lib.hid (E hpos)
    have hne : (mk (cat xs)).toList.isEmpty = false := by
      rw [Lib.toList_data, hd, List.isEmpty_eq_false_iff]
      exact hc
    clear E hd hc h hl hpos
    generalize mk (cat xs) = s at *
    generalize endL (cat xs) = t at *
    go_enter Tryz.func85, Tryz.ntmps85
    go_wp2_with fail
    refine J.out.mono ?_
    rintro e w1 ⟨rfl, rfl⟩
    go_wp2_with fail
    refine E1.out.mono ?_
    rintro e w1 ⟨rfl, rfl⟩
    go_wp2_with fail
    go_ret
    exact ⟨rfl, rfl⟩
end Go.Proofs.YtapcnmnnichamaaGreatDoor.Mg
