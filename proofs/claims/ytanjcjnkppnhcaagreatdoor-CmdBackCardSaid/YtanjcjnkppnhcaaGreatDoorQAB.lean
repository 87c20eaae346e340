/-
  todo: a line's words; a verb; a number; what is behind a step's commit.
  todo: a verb; a number; what is behind a step's commit.
  rectoref17.word, blank: the first word of a text behind blanks, and the rest.
  digits.Number: a number in digits.
  rectoref17.blank, Number.
-/
import Derived.Test.YtanjcjnkppnhcaaGreatDoorQAA
import Derived.Deep.CutBlock
import Derived.Lib.IndexLaws

namespace Go.Proofs.YtanjcjnkppnhcaaGreatDoor
open Go Go.RowKit

def mkW (l : List UInt8) : ByteArray := ⟨l.toArray⟩
theorem mkW_list (s : ByteArray) : mkW s.data.toList = s := by cases s; simp [mkW]
theorem list_mkW (l : List UInt8) : (mkW l).data.toList = l := by simp [mkW]
theorem size_listB (s : ByteArray) : s.data.toList.length = s.size := by rw [Array.length_toList]; rfl
theorem mkW_size (l : List UInt8) : (mkW l).size = l.length := by rw [← size_listB, list_mkW]
theorem extract_mkW (s : ByteArray) (a b : Nat) : s.extract a b = mkW ((s.data.toList.take b).drop a) := by
  apply congrArg ByteArray.mk
  show (s.extract a b).data = _
  rw [ByteArray.data_extract]
  apply Array.ext'
  simp [List.drop_take]
theorem bytesB_eq {a b : ByteArray} (h : a.data.toList = b.data.toList) : a = b := by rw [← mkW_list a, ← mkW_list b, h]
/-- The first word of a text, behind blanks, and what is behind it. -/
def wordP (l : List UInt8) : List UInt8 × List UInt8 :=
  if Lib.indexByte (Lib.trimLeftB l 32) 32 < 0 then (Lib.trimLeftB l 32, []) else ((Lib.trimLeftB l 32).take (Lib.indexByte (Lib.trimLeftB l 32) 32).toNat, (Lib.trimLeftB l 32).drop (Lib.indexByte (Lib.trimLeftB l 32) 32).toNat)
theorem trim_len (l : List UInt8) (c : UInt8) : (Lib.trimLeftB l c).length ≤ l.length := by
  unfold Lib.trimLeftB
  exact (List.dropWhile_sublist _).length_le
theorem indexB_le (l : List UInt8) (c : UInt8) : Lib.indexByte l c ≤ l.length := by
  rw [← Lib.index_one]; exact Lib.index_le l [c]
set_option maxHeartbeats 2000000 in
theorem word_any (s : ByteArray) (w : World) (hs : s.size ≤ 9223372036854775807) : Calls Tryz.prog 74 #[.string s] w fun e w' => e = .returned (.tuple #[.string (mkW (wordP s.data.toList).1), .string (mkW (wordP s.data.toList).2)]) ∧ ∃ q, w' = w.drewN q := by
  have TL := Lib.hid (Tryz.strings_TrimLeft_one s 32 (by decide) w)
  obtain ⟨t, ht⟩ : ∃ t : ByteArray, t = ⟨(Lib.trimLeftB s.data.toList 32).toArray⟩ := ⟨_, rfl⟩
  have HT : t.data.toList = Lib.trimLeftB s.data.toList 32 := by rw [ht]
  have IX := Lib.hid (Tryz.strings_Index_one t 32 w)
  have htl : t.size ≤ 9223372036854775807 := by
    have := trim_len s.data.toList 32
    rw [← HT, size_listB, size_listB] at this
    omega
  rw [← ht] at TL
  have HW := Lib.hid (show wordP s.data.toList = if Lib.indexByte t.data.toList 32 < 0 then (t.data.toList, []) else (t.data.toList.take (Lib.indexByte t.data.toList 32).toNat, t.data.toList.drop (Lib.indexByte t.data.toList 32).toNat) by unfold wordP; rw [HT])
  have hle := indexB_le t.data.toList 32
  rw [size_listB] at hle
  clear ht HT
  by_cases hx : Lib.indexByte t.data.toList 32 < 0
  · have hm : Lib.indexByte t.data.toList 32 = -1 := by have := Lib.indexByte_ge t.data.toList 32; omega
    rw [hm] at IX
    have HV := Lib.hid (show wordP s.data.toList = (t.data.toList, []) by rw [HW.out, if_pos hx])
    clear hx hm HW hle
    go_enter Tryz.func74, Tryz.ntmps74
    go_wp2_with (first
      | (go_at_call 104; refine TL.out.mono ?_; rintro e w1 ⟨rfl, rfl⟩)
      | (go_at_call 103; refine IX.out.mono ?_; rintro e w2 ⟨rfl, rfl⟩))
    go_ret2
    exact ⟨by rw [HV.out, mkW_list]; rfl, 0, rfl⟩
  · obtain ⟨i, hi⟩ : ∃ i : Nat, Lib.indexByte t.data.toList 32 = i := ⟨(Lib.indexByte t.data.toList 32).toNat, by omega⟩
    have HV := Lib.hid (show wordP s.data.toList = (t.data.toList.take i, t.data.toList.drop i) by rw [HW.out, if_neg hx, hi]; simp)
    rw [hi] at IX hle
    have hil : i ≤ t.size := by omega
    have hi0 : (0 : Int) ≤ (i : Int) := Int.natCast_nonneg _
    have hil2 : (i : Int) ≤ (t.size : Int) := by omega
    clear hx hi HW
    go_enter Tryz.func74, Tryz.ntmps74
    go_wp2_with (first
      | (go_at_call 104; refine TL.out.mono ?_; rintro e w1 ⟨rfl, rfl⟩)
      | (go_at_call 103; refine IX.out.mono ?_; rintro e w2 ⟨rfl, rfl⟩))
    go_region
    go_wp2
    go_ret2
    refine ⟨?_, 1, rfl⟩
    rw [HV.out, show t.extract 0 i = mkW (t.data.toList.take i) by rw [extract_mkW]; rfl, show t.extract i t.size = mkW (t.data.toList.drop i) by rw [extract_mkW, ← size_listB, List.take_length]]
    rfl
end Go.Proofs.YtanjcjnkppnhcaaGreatDoor

namespace Go.Proofs.YtanjcjnkppnhcaaGreatDoor
open Go Go.RowKit

/-- Is it a step's verb? -/
def knownV (v : ByteArray) : Bool := (v.toList == [112, 105, 99, 107]) || (v.toList == [114, 101, 119, 111, 114, 100]) || (v.toList == [101, 100, 105, 116]) || (v.toList == [115, 113, 117, 97, 115, 104]) || (v.toList == [102, 105, 120, 117, 112]) || (v.toList == [100, 114, 111, 112])
set_option maxRecDepth 100000 in
set_option maxHeartbeats 2000000 in
theorem knownV_any (v : ByteArray) (w : World) : Calls Tryz.prog 75 #[.string v] w fun e w' => e = .returned (.bool (knownV v)) ∧ w' = w := by
  cases h0 : (v.toList == [112, 105, 99, 107]) with
  | true =>
    have HV := Lib.hid (show knownV v = true by unfold knownV; rw [h0]; rfl)
    go_enter Tryz.func75, Tryz.ntmps75
    go_wp2
    go_ret
    exact ⟨by rw [HV.out]; rfl, rfl⟩
  | false =>
    cases h1 : (v.toList == [114, 101, 119, 111, 114, 100]) with
    | true =>
      have HV := Lib.hid (show knownV v = true by unfold knownV; rw [h0, h1]; rfl)
      go_enter Tryz.func75, Tryz.ntmps75
      go_wp2
      go_ret
      exact ⟨by rw [HV.out]; rfl, rfl⟩
    | false =>
      cases h2 : (v.toList == [101, 100, 105, 116]) with
      | true =>
        have HV := Lib.hid (show knownV v = true by unfold knownV; rw [h0, h1, h2]; rfl)
        go_enter Tryz.func75, Tryz.ntmps75
        go_wp2
        go_ret
        exact ⟨by rw [HV.out]; rfl, rfl⟩
      | false =>
        cases h3 : (v.toList == [115, 113, 117, 97, 115, 104]) with
        | true =>
          have HV := Lib.hid (show knownV v = true by unfold knownV; rw [h0, h1, h2, h3]; rfl)
          go_enter Tryz.func75, Tryz.ntmps75
          go_wp2
          go_ret
          exact ⟨by rw [HV.out]; rfl, rfl⟩
        | false =>
          cases h4 : (v.toList == [102, 105, 120, 117, 112]) with
          | true =>
            have HV := Lib.hid (show knownV v = true by unfold knownV; rw [h0, h1, h2, h3, h4]; rfl)
            go_enter Tryz.func75, Tryz.ntmps75
            go_wp2
            go_ret
            exact ⟨by rw [HV.out]; rfl, rfl⟩
          | false =>
            cases h5 : (v.toList == [100, 114, 111, 112]) with
            | true =>
              have HV := Lib.hid (show knownV v = true by unfold knownV; rw [h0, h1, h2, h3, h4, h5]; rfl)
              go_enter Tryz.func75, Tryz.ntmps75
              go_wp2
              go_ret
              exact ⟨by rw [HV.out]; rfl, rfl⟩
            | false =>
              have HV := Lib.hid (show knownV v = false by unfold knownV; rw [h0, h1, h2, h3, h4, h5]; rfl)
              go_enter Tryz.func75, Tryz.ntmps75
              go_wp2
              go_ret
              exact ⟨by rw [HV.out]; rfl, rfl⟩
end Go.Proofs.YtanjcjnkppnhcaaGreatDoor

namespace Go.Proofs.YtanjcjnkppnhcaaGreatDoor
open Go Go.RowKit

theorem trim_at : ∀ (l : List UInt8) (i : Nat), (∀ j, j < i → l[j]? = some 32) → l[i]? ≠ some 32 → Lib.trimLeftB l 32 = l.drop i
  | [], i, _, _ => by unfold Lib.trimLeftB; simp
  | c :: l, 0, _, h => by
    have hc : c ≠ 32 := by simpa using h
    unfold Lib.trimLeftB
    rw [List.dropWhile_cons_of_neg (by simpa using hc)]
    rfl
  | c :: l, i + 1, h, h2 => by
    have hc : c = 32 := by simpa using h 0 (by omega)
    have := trim_at l i (fun j hj => by simpa using h (j + 1) (by omega)) (by simpa using h2)
    unfold Lib.trimLeftB at this ⊢
    rw [List.dropWhile_cons_of_pos (by simpa using hc), this]
    rfl
theorem word_at {l : List UInt8} {i k : Nat} (hik : i ≤ k) (hk : k ≤ l.length) (hb : ∀ j, j < i → l[j]? = some 32) (hi : l[i]? ≠ some 32) (hw : ∀ j, i ≤ j → j < k → l[j]? ≠ some 32) (he : k = l.length ∨ l[k]? = some 32) : wordP l = ((l.take k).drop i, l.drop k) := by
  unfold wordP
  rw [trim_at l i hb hi]
  have hg : ∀ j, (l.drop i)[j]? = l[i + j]? := fun j => List.getElem?_drop
  by_cases hx : Lib.indexByte (l.drop i) 32 < 0
  · rw [if_pos hx]
    have hx1 : Lib.indexByte (l.drop i) 32 = -1 := by have := Lib.indexByte_ge (l.drop i) 32; omega
    have hn := Lib.indexByte_none hx1
    have hke : k = l.length := he.elim id fun h => absurd (show (l.drop i)[k - i]? = some 32 by rw [hg, show i + (k - i) = k by omega]; exact h) (hn _)
    subst hke
    rw [List.take_length, List.drop_length]
  · rw [if_neg hx]
    obtain ⟨o, ho⟩ : ∃ o : Nat, Lib.indexByte (l.drop i) 32 = (o : Int) := ⟨(Lib.indexByte (l.drop i) 32).toNat, by omega⟩
    obtain ⟨h1, h2⟩ := Lib.indexByte_some ho
    rw [hg] at h1
    have hok : i + o = k := by
      rcases Nat.lt_trichotomy (i + o) k with h | h | h
      · exact absurd h1 (hw _ (by omega) h)
      · exact h
      · have hol := (List.getElem?_eq_some_iff.1 h1).1
        rcases he with e | e
        · omega
        · exact absurd (show (l.drop i)[k - i]? = some 32 by rw [hg, show i + (k - i) = k by omega]; exact e) (h2 _ (by omega))
    rw [ho, Int.toNat_natCast, List.drop_drop, hok, show o = k - i by omega, List.drop_take]
set_option maxHeartbeats 2000000 in
theorem refWord_any (s : ByteArray) (w : World) (hs : s.size ≤ 9223372036854775807) : Calls Tryz.prog 38 #[.string s] w fun e w' => e = .returned (.tuple #[.string (mkW (wordP s.data.toList).1), .string (mkW (wordP s.data.toList).2)]) ∧ ∃ d, w' = w.drewN d := by
  have l0 : (0 : Int) ≤ (s.size : Int) := Int.natCast_nonneg _
  have l9 : (s.size : Int) ≤ 9223372036854775807 := by omega
  go_enter Tryz.func38, Tryz.ntmps38
  go_wp2_with fail
  go_loopw [4] (fun s4 wr => ∃ i : Nat, i ≤ s.size ∧ s4 = .int .i64 i ∧ Hid (∀ j, j < i → s.data.toList[j]? = some 32) ∧ Hid (wr = w)) (fun s4 _ => s.size - (intOf s4).toNat)
  case atStart => exact ⟨0, Nat.zero_le _, rfl, Lib.hid (fun j hj => absurd hj (Nat.not_lt_zero _)), Lib.hid rfl⟩
  case round =>
    obtain ⟨i, hi, rfl, HB, HW⟩ := hrel
    have i0 : (0 : Int) ≤ (i : Int) := Int.natCast_nonneg _
    by_cases hlt : i < s.size
    · have hli : (i : Int) < (s.size : Int) := by omega
      have hg : s.data.toList[i]? = some s[i] := List.getElem?_eq_getElem (by rw [size_listB]; exact hlt)
      by_cases hc : s[i] = 32
      · have b1 : (s[i].toNat : Int) = 32 := by rw [hc]; rfl
        have b2 : ((s[i].toNat : Int) == 32) = true := by simpa using b1
        have HB2 := Lib.hid (show ∀ j, j < i + 1 → s.data.toList[j]? = some 32 from fun j hj => by
          by_cases h : j < i
          · exact HB.out j h
          · obtain rfl : j = i := by omega
            rw [hg, hc])
        clear hg hc
        go_wp2
        go_roundw
        case rel => exact ⟨i + 1, by omega, by go_num, HB2, HW⟩
        case measure => simp [intOf]; omega
      · have b1 : ¬ (s[i].toNat : Int) = 32 := fun e => hc (UInt8.toNat_inj.1 (by show s[i].toNat = 32; omega))
        have b2 : ((s[i].toNat : Int) == 32) = false := by simpa using b1
        have HI := Lib.hid (show s.data.toList[i]? ≠ some 32 by rw [hg]; exact fun e => hc (Option.some.inj e))
        clear hg hc
        go_wp2_with fail
        clear b1 b2
        go_loopw [5] (fun s5 wr => ∃ k : Nat, i ≤ k ∧ k ≤ s.size ∧ s5 = .int .i64 k ∧ Hid (∀ j, i ≤ j → j < k → s.data.toList[j]? ≠ some 32) ∧ Hid (wr = w)) (fun s5 _ => s.size - (intOf s5).toNat)
        case atStart => exact ⟨i, Nat.le_refl _, hi, rfl, Lib.hid (fun j h1 h2 => absurd h2 (by omega)), HW⟩
        case round =>
          clear HW
          obtain ⟨k, hik, hk, rfl, HK, HW⟩ := hrel
          have k0 : (0 : Int) ≤ (k : Int) := Int.natCast_nonneg _
          have iki : (i : Int) ≤ (k : Int) := by omega
          have kki : (k : Int) ≤ (s.size : Int) := by omega
          have FIN : Hid ((k = s.data.toList.length ∨ s.data.toList[k]? = some 32) → Ending.returned (.tuple #[.string (s.extract i k), .string (s.extract k s.size)]) = .returned (.tuple #[.string (mkW (wordP s.data.toList).1), .string (mkW (wordP s.data.toList).2)])) := Lib.hid fun he => by
            rw [word_at hik (by rw [size_listB]; exact hk) HB.out HI.out HK.out he, extract_mkW, extract_mkW, ← size_listB, List.take_length]
          by_cases hkl : k < s.size
          · have hkli : (k : Int) < (s.size : Int) := by omega
            have hgk : s.data.toList[k]? = some s[k] := List.getElem?_eq_getElem (by rw [size_listB]; exact hkl)
            by_cases hc2 : s[k] = 32
            · have c1 : (s[k].toNat : Int) = 32 := by rw [hc2]; rfl
              have c2 : ((s[k].toNat : Int) == 32) = true := by simpa using c1
              have c3 : ((s[k].toNat : Int) != 32) = false := by simpa using c1
              have F2 := Lib.hid (FIN.out (.inr (by rw [hgk, hc2])))
              clear hgk hc2 FIN
              go_wp2_with fail
              go_region
              go_wp2
              go_ret2
              exact ⟨F2.out, 1, by rw [← HW.out]; rfl⟩
            · have c1 : ¬ (s[k].toNat : Int) = 32 := fun e => hc2 (UInt8.toNat_inj.1 (by show s[k].toNat = 32; omega))
              have c2 : ((s[k].toNat : Int) == 32) = false := by simpa using c1
              have c3 : ((s[k].toNat : Int) != 32) = true := by simpa using c1
              have HK2 := Lib.hid (show ∀ j, i ≤ j → j < k + 1 → s.data.toList[j]? ≠ some 32 from fun j h1 h2 => by
                by_cases hj : j < k
                · exact HK.out j h1 hj
                · obtain rfl : j = k := by omega
                  rw [hgk]
                  exact fun e => hc2 (Option.some.inj e))
              clear hgk hc2 FIN
              go_wp2
              go_roundw
              case rel => exact ⟨k + 1, by omega, by omega, by go_num, HK2, HW⟩
              case measure => simp [intOf]; omega
          · obtain rfl : k = s.size := by omega
            have F2 := FIN.out (.inl (size_listB s).symm)
            rw [show s.extract s.size s.size = ByteArray.empty from bytesB_eq (by rw [extract_mkW, list_mkW, ← size_listB, List.take_length, List.drop_length]; rfl)] at F2
            have F2 := Lib.hid F2
            clear FIN
            go_wp2_with fail
            go_region
            go_wp2
            go_ret2
            exact ⟨F2.out, 1, by rw [← HW.out]; rfl⟩
    · obtain rfl : i = s.size := by omega
      have HI := Lib.hid (show s.data.toList[s.size]? ≠ some 32 by rw [← size_listB, List.getElem?_eq_none (Nat.le_refl _)]; simp)
      obtain ⟨i, hie⟩ : ∃ i, i = s.size := ⟨_, rfl⟩
      have HE := Lib.hid hie
      rw [← hie] at HB HI
      go_wp2_with fail
      rw [← hie]
      clear hie
      have hi : i ≤ s.size := by have := HE.out; omega
      go_loopw [5] (fun s5 wr => ∃ k : Nat, i ≤ k ∧ k ≤ s.size ∧ s5 = .int .i64 k ∧ Hid (∀ j, i ≤ j → j < k → s.data.toList[j]? ≠ some 32) ∧ Hid (wr = w)) (fun s5 _ => s.size - (intOf s5).toNat)
      case atStart => exact ⟨i, Nat.le_refl _, hi, rfl, Lib.hid (fun j h1 h2 => absurd h2 (by omega)), HW⟩
      case round =>
        clear HW
        obtain ⟨k, hik, hk, rfl, HK, HW⟩ := hrel
        have k0 : (0 : Int) ≤ (k : Int) := Int.natCast_nonneg _
        have iki : (i : Int) ≤ (k : Int) := by omega
        have kki : (k : Int) ≤ (s.size : Int) := by omega
        have FIN : Hid ((k = s.data.toList.length ∨ s.data.toList[k]? = some 32) → Ending.returned (.tuple #[.string (s.extract i k), .string (s.extract k s.size)]) = .returned (.tuple #[.string (mkW (wordP s.data.toList).1), .string (mkW (wordP s.data.toList).2)])) := Lib.hid fun he => by
          rw [word_at hik (by rw [size_listB]; exact hk) HB.out HI.out HK.out he, extract_mkW, extract_mkW, ← size_listB, List.take_length]
        by_cases hkl : k < s.size
        · have hkli : (k : Int) < (s.size : Int) := by omega
          have hgk : s.data.toList[k]? = some s[k] := List.getElem?_eq_getElem (by rw [size_listB]; exact hkl)
          by_cases hc2 : s[k] = 32
          · have c1 : (s[k].toNat : Int) = 32 := by rw [hc2]; rfl
            have c2 : ((s[k].toNat : Int) == 32) = true := by simpa using c1
            have c3 : ((s[k].toNat : Int) != 32) = false := by simpa using c1
            have F2 := Lib.hid (FIN.out (.inr (by rw [hgk, hc2])))
            clear hgk hc2 FIN
            go_wp2_with fail
            go_region
            go_wp2
            go_ret2
            exact ⟨F2.out, 1, by rw [← HW.out]; rfl⟩
          · have c1 : ¬ (s[k].toNat : Int) = 32 := fun e => hc2 (UInt8.toNat_inj.1 (by show s[k].toNat = 32; omega))
            have c2 : ((s[k].toNat : Int) == 32) = false := by simpa using c1
            have c3 : ((s[k].toNat : Int) != 32) = true := by simpa using c1
            have HK2 := Lib.hid (show ∀ j, i ≤ j → j < k + 1 → s.data.toList[j]? ≠ some 32 from fun j h1 h2 => by
              by_cases hj : j < k
              · exact HK.out j h1 hj
              · obtain rfl : j = k := by omega
                rw [hgk]
                exact fun e => hc2 (Option.some.inj e))
            clear hgk hc2 FIN
            go_wp2
            go_roundw
            case rel => exact ⟨k + 1, by omega, by omega, by go_num, HK2, HW⟩
            case measure => simp [intOf]; omega
        · obtain rfl : k = s.size := by omega
          have F2 := FIN.out (.inl (size_listB s).symm)
          rw [show s.extract s.size s.size = ByteArray.empty from bytesB_eq (by rw [extract_mkW, list_mkW, ← size_listB, List.take_length, List.drop_length]; rfl)] at F2
          have F2 := Lib.hid F2
          clear FIN
          go_wp2_with fail
          go_region
          go_wp2
          go_ret2
          exact ⟨F2.out, 1, by rw [← HW.out]; rfl⟩
end Go.Proofs.YtanjcjnkppnhcaaGreatDoor

namespace Go.Proofs.YtanjcjnkppnhcaaGreatDoor
open Go Go.RowKit

def digB (c : UInt8) : Bool := decide (48 ≤ c.toNat) && decide (c.toNat ≤ 57)
def numV (l : List UInt8) : Nat := l.foldl (fun n c => 10 * n + (c.toNat - 48)) 0
/-- A number in digits, and whether it is one. -/
def numP (l : List UInt8) : Nat × Bool :=
  if l = [] ∨ 7 < l.length ∨ (1 < l.length ∧ l.head? = some 48) then (0, false)
  else if l.all digB = false then (0, false)
  else if 1000000 < numV l then (0, false) else (numV l, true)
theorem numV_snoc (l : List UInt8) (c : UInt8) : numV (l ++ [c]) = 10 * numV l + (c.toNat - 48) := by unfold numV; rw [List.foldl_append]; rfl
theorem take_snocB {l : List UInt8} {k : Nat} {c : UInt8} (h : l[k]? = some c) : l.take (k + 1) = l.take k ++ [c] := by
  obtain ⟨hk, rfl⟩ := List.getElem?_eq_some_iff.1 h
  exact List.take_succ_eq_append_getElem hk
theorem all_bad {l : List UInt8} {k : Nat} {c : UInt8} (h : l[k]? = some c) (hc : digB c = false) : l.all digB = false := by
  rw [List.all_eq_false]
  exact ⟨c, List.mem_of_getElem? h, by rw [hc]; simp⟩
theorem all_take {l : List UInt8} (h : (l.take l.length).all digB = true) : l.all digB = true := by rwa [List.take_length] at h
theorem nil_ofB {s : ByteArray} (h : s.size = 0) : s = ⟨#[]⟩ := bytesB_eq (List.eq_nil_of_length_eq_zero (by rw [size_listB]; exact h))
theorem ret_n {a b : Nat × Bool} (h : a = b) : Ending.returned (.tuple #[.int .i64 (a.1 : Int), .bool a.2]) = .returned (.tuple #[.int .i64 (b.1 : Int), .bool b.2]) := by rw [h]
set_option maxRecDepth 100000 in
set_option maxHeartbeats 2000000 in
theorem number_any (s : ByteArray) (w : World) (hs : s.size ≤ 9223372036854775807) : Calls Tryz.prog 76 #[.string s] w fun e w' => e = .returned (.tuple #[.int .i64 ((numP s.data.toList).1 : Int), .bool (numP s.data.toList).2]) ∧ w' = w := by
  by_cases h0 : s.size = 0
  · obtain rfl := nil_ofB h0
    go_enter Tryz.func76, Tryz.ntmps76
    go_wp2
    go_ret2
    exact ⟨rfl, rfl⟩
  have hne : s.data.toList ≠ [] := fun e => h0 (by rw [← size_listB, e]; rfl)
  have q1 : ¬ s.toList = [] := by rw [ByteArray.toList_eq]; exact hne
  have q2 : s.toList.isEmpty = false := by
    cases hl : s.toList with
    | nil => exact absurd hl q1
    | cons a l => rfl
  have HNE := Lib.hid hne
  have h0l : (0 : Int) < (s.size : Int) := by omega
  have h0n : 0 < s.size := by omega
  clear hne
  by_cases h7 : 7 < s.size
  · have HV := Lib.hid (show numP s.data.toList = (0, false) by unfold numP; rw [if_pos (.inr (.inl (by rw [size_listB]; exact h7)))])
    have h7i : (7 : Int) < (s.size : Int) := by omega
    go_enter Tryz.func76, Tryz.ntmps76
    go_wp2
    go_ret2
    exact ⟨ret_n HV.out.symm, rfl⟩
  have h7i : ¬ (7 : Int) < (s.size : Int) := by omega
  have hd0 : s.data.toList.head? = some s[0] := by
    rw [List.head?_eq_getElem?]
    exact List.getElem?_eq_getElem (by rw [size_listB]; exact h0n)
  by_cases hz : 1 < s.size ∧ s[0] = 48
  · have HV := Lib.hid (show numP s.data.toList = (0, false) by unfold numP; rw [if_pos (.inr (.inr ⟨by rw [size_listB]; exact hz.1, by rw [hd0, hz.2]⟩))])
    have h1i : (1 : Int) < (s.size : Int) := by omega
    have b1 : ((s[0].toNat : Int) == 48) = true := by rw [hz.2]; rfl
    have b2 : (s[0].toNat : Int) = 48 := by rw [hz.2]; rfl
    clear hz hd0
    go_enter Tryz.func76, Tryz.ntmps76
    go_wp2
    go_ret2
    exact ⟨ret_n HV.out.symm, rfl⟩
  have HQ := Lib.hid (show ¬ (s.data.toList = [] ∨ 7 < s.data.toList.length ∨ (1 < s.data.toList.length ∧ s.data.toList.head? = some 48)) from fun e => e.elim HNE.out fun e => e.elim (fun h => h7 (by rw [← size_listB]; exact h)) fun h => hz ⟨by rw [← size_listB]; exact h.1, by have := h.2; rw [hd0] at this; exact Option.some.inj this⟩)
  have hz2 : (1 : Int) < (s.size : Int) → ((s[0].toNat : Int) == 48) = false := fun h => by
    have hx : ¬ s[0] = 48 := fun e => hz ⟨by omega, e⟩
    have : ¬ (s[0].toNat : Int) = 48 := fun e => hx (UInt8.toNat_inj.1 (by show s[0].toNat = 48; omega))
    simpa using this
  clear hz hd0
  have h8 : s.size ≤ 7 := by omega
  by_cases h1 : 1 < s.size
  · have h1i : (1 : Int) < (s.size : Int) := by omega
    have b1 := hz2 h1i
    have b2 : ¬ (s[0].toNat : Int) = 48 := by simpa using b1
    clear hz2
    go_enter Tryz.func76, Tryz.ntmps76
    go_wp2_with fail
    clear b1 b2
    go_loopw [4, 5, 25] (fun s4 _ s25 wr => ∃ k n : Nat, k ≤ s.size ∧ s25 = .int .i64 k ∧ s4 = .int .i64 n ∧ Hid (n = numV (s.data.toList.take k)) ∧ Hid (n < 10 ^ k) ∧ Hid ((s.data.toList.take k).all digB = true) ∧ Hid (wr = w)) (fun _ _ s25 _ => s.size - (intOf s25).toNat)
    case atStart => exact ⟨0, 0, Nat.zero_le _, rfl, rfl, Lib.hid rfl, Lib.hid (by decide), Lib.hid rfl, Lib.hid rfl⟩
    case round =>
      obtain ⟨k, n, hk, rfl, rfl, HN, HP, HA, HW⟩ := hrel
      have k0 : (0 : Int) ≤ (k : Int) := Int.natCast_nonneg _
      have n0 : (0 : Int) ≤ (n : Int) := Int.natCast_nonneg _
      by_cases hlt : k < s.size
      · have hki : (k : Int) < (s.size : Int) := by omega
        have hget : s.data.toList[k]? = some s[k] := List.getElem?_eq_getElem (by rw [size_listB]; exact hlt)
        have hn6 : n < 1000000 := Nat.lt_of_lt_of_le HP.out (Nat.pow_le_pow_right (by decide) (show k ≤ 6 by omega))
        have hn6i : (n : Int) < 1000000 := by omega
        cases hc : digB s[k] with
        | false =>
          have HV := Lib.hid (show numP s.data.toList = (0, false) by unfold numP; rw [if_neg HQ.out, if_pos (all_bad hget hc)])
          have hc2 : s[k].toNat < 48 ∨ (¬ s[k].toNat < 48 ∧ 57 < s[k].toNat) := by
            unfold digB at hc
            rw [Bool.and_eq_false_iff, decide_eq_false_iff_not, decide_eq_false_iff_not] at hc
            omega
          rcases hc2 with h | ⟨h, h'⟩
          · have b1 : (s[k].toNat : Int) < 48 := by omega
            clear hc h
            go_wp2
            go_ret2
            exact ⟨ret_n HV.out.symm, HW.out⟩
          · have b1 : ¬ (s[k].toNat : Int) < 48 := by omega
            have b2 : (57 : Int) < (s[k].toNat : Int) := by omega
            clear hc h h'
            go_wp2
            go_ret2
            exact ⟨ret_n HV.out.symm, HW.out⟩
        | true =>
          have hc2 : 48 ≤ s[k].toNat ∧ s[k].toNat ≤ 57 := by
            unfold digB at hc
            rw [Bool.and_eq_true, decide_eq_true_iff, decide_eq_true_iff] at hc
            exact hc
          have HT := Lib.hid (take_snocB hget)
          have HN2 := Lib.hid (show 10 * n + (s[k].toNat - 48) = numV (s.data.toList.take (k + 1)) by rw [HT.out, numV_snoc, ← HN.out])
          have HP2 := Lib.hid (show 10 * n + (s[k].toNat - 48) < 10 ^ (k + 1) by rw [Nat.pow_succ]; have := HP.out; omega)
          have HA2 := Lib.hid (show (s.data.toList.take (k + 1)).all digB = true by rw [HT.out, List.all_append, HA.out]; simpa using hc)
          obtain ⟨d, hd⟩ : ∃ d : Nat, s[k].toNat = 48 + d := ⟨s[k].toNat - 48, by omega⟩
          have hd9 : d ≤ 9 := by omega
          have HD := Lib.hid (show s[k].toNat - 48 = d by omega)
          rw [HD.out] at HN2 HP2
          have b1 : ¬ (s[k].toNat : Int) < 48 := by omega
          have b2 : ¬ (57 : Int) < (s[k].toNat : Int) := by omega
          have b3 : (s[k].toNat : Int) - 48 = (d : Int) := by omega
          have d0 : (0 : Int) ≤ (d : Int) := Int.natCast_nonneg _
          have d9 : (d : Int) ≤ 9 := by omega
          clear hc hc2 hd HT HD
          go_wp2
          go_roundw
          case rel => exact ⟨k + 1, 10 * n + d, by omega, by go_num, by go_num, HN2, HP2, HA2, HW⟩
          case measure => simp [intOf]; omega
      · obtain rfl : k = s.size := by omega
        have HA2 := all_take (l := s.data.toList) (by rw [size_listB]; exact HA.out)
        have HN2 : n = numV s.data.toList := by rw [HN.out, ← size_listB, List.take_length]
        have hn7 : n < 10000000 := Nat.lt_of_lt_of_le HP.out (Nat.pow_le_pow_right (by decide) h8)
        have hn7i : (n : Int) < 10000000 := by omega
        by_cases hm : 1000000 < n
        · have HV := Lib.hid (show numP s.data.toList = (0, false) by unfold numP; rw [if_neg HQ.out, if_neg (by rw [HA2]; simp), if_pos (by rw [← HN2]; exact hm)])
          have hmi : (1000000 : Int) < (n : Int) := by omega
          clear HN2 HA2 hm
          go_wp2
          go_ret2
          exact ⟨ret_n HV.out.symm, HW.out⟩
        · have HV := Lib.hid (show numP s.data.toList = (n, true) by unfold numP; rw [if_neg HQ.out, if_neg (by rw [HA2]; simp), ← HN2, if_neg hm])
          have hmi : ¬ (1000000 : Int) < (n : Int) := by omega
          clear HN2 HA2 hm
          go_wp2
          go_ret2
          exact ⟨ret_n HV.out.symm, HW.out⟩
  · have h1i : ¬ (1 : Int) < (s.size : Int) := by omega
    clear hz2
    go_enter Tryz.func76, Tryz.ntmps76
    go_wp2_with fail
    go_loopw [4, 5, 25] (fun s4 _ s25 wr => ∃ k n : Nat, k ≤ s.size ∧ s25 = .int .i64 k ∧ s4 = .int .i64 n ∧ Hid (n = numV (s.data.toList.take k)) ∧ Hid (n < 10 ^ k) ∧ Hid ((s.data.toList.take k).all digB = true) ∧ Hid (wr = w)) (fun _ _ s25 _ => s.size - (intOf s25).toNat)
    case atStart => exact ⟨0, 0, Nat.zero_le _, rfl, rfl, Lib.hid rfl, Lib.hid (by decide), Lib.hid rfl, Lib.hid rfl⟩
    case round =>
      obtain ⟨k, n, hk, rfl, rfl, HN, HP, HA, HW⟩ := hrel
      have k0 : (0 : Int) ≤ (k : Int) := Int.natCast_nonneg _
      have n0 : (0 : Int) ≤ (n : Int) := Int.natCast_nonneg _
      by_cases hlt : k < s.size
      · have hki : (k : Int) < (s.size : Int) := by omega
        have hget : s.data.toList[k]? = some s[k] := List.getElem?_eq_getElem (by rw [size_listB]; exact hlt)
        have hn6 : n < 1000000 := Nat.lt_of_lt_of_le HP.out (Nat.pow_le_pow_right (by decide) (show k ≤ 6 by omega))
        have hn6i : (n : Int) < 1000000 := by omega
        cases hc : digB s[k] with
        | false =>
          have HV := Lib.hid (show numP s.data.toList = (0, false) by unfold numP; rw [if_neg HQ.out, if_pos (all_bad hget hc)])
          have hc2 : s[k].toNat < 48 ∨ (¬ s[k].toNat < 48 ∧ 57 < s[k].toNat) := by
            unfold digB at hc
            rw [Bool.and_eq_false_iff, decide_eq_false_iff_not, decide_eq_false_iff_not] at hc
            omega
          rcases hc2 with h | ⟨h, h'⟩
          · have b1 : (s[k].toNat : Int) < 48 := by omega
            clear hc h
            go_wp2
            go_ret2
            exact ⟨ret_n HV.out.symm, HW.out⟩
          · have b1 : ¬ (s[k].toNat : Int) < 48 := by omega
            have b2 : (57 : Int) < (s[k].toNat : Int) := by omega
            clear hc h h'
            go_wp2
            go_ret2
            exact ⟨ret_n HV.out.symm, HW.out⟩
        | true =>
          have hc2 : 48 ≤ s[k].toNat ∧ s[k].toNat ≤ 57 := by
            unfold digB at hc
            rw [Bool.and_eq_true, decide_eq_true_iff, decide_eq_true_iff] at hc
            exact hc
          have HT := Lib.hid (take_snocB hget)
          have HN2 := Lib.hid (show 10 * n + (s[k].toNat - 48) = numV (s.data.toList.take (k + 1)) by rw [HT.out, numV_snoc, ← HN.out])
          have HP2 := Lib.hid (show 10 * n + (s[k].toNat - 48) < 10 ^ (k + 1) by rw [Nat.pow_succ]; have := HP.out; omega)
          have HA2 := Lib.hid (show (s.data.toList.take (k + 1)).all digB = true by rw [HT.out, List.all_append, HA.out]; simpa using hc)
          obtain ⟨d, hd⟩ : ∃ d : Nat, s[k].toNat = 48 + d := ⟨s[k].toNat - 48, by omega⟩
          have hd9 : d ≤ 9 := by omega
          have HD := Lib.hid (show s[k].toNat - 48 = d by omega)
          rw [HD.out] at HN2 HP2
          have b1 : ¬ (s[k].toNat : Int) < 48 := by omega
          have b2 : ¬ (57 : Int) < (s[k].toNat : Int) := by omega
          have b3 : (s[k].toNat : Int) - 48 = (d : Int) := by omega
          have d0 : (0 : Int) ≤ (d : Int) := Int.natCast_nonneg _
          have d9 : (d : Int) ≤ 9 := by omega
          clear hc hc2 hd HT HD
          go_wp2
          go_roundw
          case rel => exact ⟨k + 1, 10 * n + d, by omega, by go_num, by go_num, HN2, HP2, HA2, HW⟩
          case measure => simp [intOf]; omega
      · obtain rfl : k = s.size := by omega
        have HA2 := all_take (l := s.data.toList) (by rw [size_listB]; exact HA.out)
        have HN2 : n = numV s.data.toList := by rw [HN.out, ← size_listB, List.take_length]
        have hn7 : n < 10000000 := Nat.lt_of_lt_of_le HP.out (Nat.pow_le_pow_right (by decide) h8)
        have hn7i : (n : Int) < 10000000 := by omega
        by_cases hm : 1000000 < n
        · have HV := Lib.hid (show numP s.data.toList = (0, false) by unfold numP; rw [if_neg HQ.out, if_neg (by rw [HA2]; simp), if_pos (by rw [← HN2]; exact hm)])
          have hmi : (1000000 : Int) < (n : Int) := by omega
          clear HN2 HA2 hm
          go_wp2
          go_ret2
          exact ⟨ret_n HV.out.symm, HW.out⟩
        · have HV := Lib.hid (show numP s.data.toList = (n, true) by unfold numP; rw [if_neg HQ.out, if_neg (by rw [HA2]; simp), ← HN2, if_neg hm])
          have hmi : ¬ (1000000 : Int) < (n : Int) := by omega
          clear HN2 HA2 hm
          go_wp2
          go_ret2
          exact ⟨ret_n HV.out.symm, HW.out⟩
end Go.Proofs.YtanjcjnkppnhcaaGreatDoor

namespace Go.Proofs.YtanjcjnkppnhcaaGreatDoor
open Go Go.RowKit

theorem refBlank_any (s : ByteArray) (w : World) (hs : s.size ≤ 9223372036854775807) : Calls Tryz.prog 78 #[.string s] w fun e w' => e = .returned (.bool (decide ((wordP s.data.toList).1 = []))) ∧ ∃ q, w' = w.drewN q := by
  have RW := Lib.hid (refWord_any s w hs)
  obtain ⟨v, hv⟩ : ∃ v, v = mkW (wordP s.data.toList).1 := ⟨_, rfl⟩
  have HV := Lib.hid (show v.data.toList = (wordP s.data.toList).1 by rw [hv, list_mkW])
  rw [← hv] at RW
  clear hv
  go_enter Tryz.func78, Tryz.ntmps78
  go_wp2_with fail
  refine RW.out.mono ?_
  rintro e w1 ⟨rfl, q, rfl⟩
  by_cases h0 : v.data.toList = []
  · have h1 : v = ⟨#[]⟩ := bytesB_eq (by rw [h0])
    have HD := Lib.hid (show decide ((wordP s.data.toList).1 = []) = true by rw [← HV.out, h0]; rfl)
    clear h0 HV RW
    subst h1
    go_wp2
    go_ret
    exact ⟨by rw [HD.out]; rfl, q, rfl⟩
  · have HD := Lib.hid (show decide ((wordP s.data.toList).1 = []) = false by rw [← HV.out]; exact decide_eq_false h0)
    have q1 : ¬ v.toList = [] := by rw [ByteArray.toList_eq]; exact h0
    have q2 : v.toList.isEmpty = false := by
      cases hl : v.toList with
      | nil => exact absurd hl q1
      | cons a l => rfl
    clear h0 HV RW
    go_wp2
    go_ret
    exact ⟨by rw [HD.out]; rfl, q, rfl⟩
def numR (l : List UInt8) : Int := if (numP l).2 = true then ((numP l).1 : Int) else -1
theorem ret_r {l : List UInt8} {x : Nat × Bool} (h : numP l = x) : Ending.returned (.int .i64 (if x.2 = true then (x.1 : Int) else -1)) = .returned (.int .i64 (numR l)) := by rw [← h]; rfl
set_option maxRecDepth 100000 in
set_option maxHeartbeats 2000000 in
theorem refNumber_any (s : ByteArray) (w : World) (hs : s.size ≤ 9223372036854775807) : Calls Tryz.prog 69 #[.string s] w fun e w' => e = .returned (.int .i64 (numR s.data.toList)) ∧ w' = w := by
  by_cases h0 : s.size = 0
  · obtain rfl := nil_ofB h0
    go_enter Tryz.func69, Tryz.ntmps69
    go_wp2
    go_ret
    exact ⟨rfl, rfl⟩
  have hne : s.data.toList ≠ [] := fun e => h0 (by rw [← size_listB, e]; rfl)
  have q1 : ¬ s.toList = [] := by rw [ByteArray.toList_eq]; exact hne
  have q2 : s.toList.isEmpty = false := by
    cases hl : s.toList with
    | nil => exact absurd hl q1
    | cons a l => rfl
  have HNE := Lib.hid hne
  have h0l : (0 : Int) < (s.size : Int) := by omega
  have h0n : 0 < s.size := by omega
  have e0 : ¬ (s.size : Int) < 1 := by omega
  clear hne
  by_cases h7 : 7 < s.size
  · have HV := Lib.hid (show numP s.data.toList = (0, false) by unfold numP; rw [if_pos (.inr (.inl (by rw [size_listB]; exact h7)))])
    have h7i : (7 : Int) < (s.size : Int) := by omega
    go_enter Tryz.func69, Tryz.ntmps69
    go_wp2
    go_ret
    exact ⟨ret_r HV.out, rfl⟩
  have h7i : ¬ (7 : Int) < (s.size : Int) := by omega
  have hd0 : s.data.toList.head? = some s[0] := by
    rw [List.head?_eq_getElem?]
    exact List.getElem?_eq_getElem (by rw [size_listB]; exact h0n)
  by_cases hz : 1 < s.size ∧ s[0] = 48
  · have HV := Lib.hid (show numP s.data.toList = (0, false) by unfold numP; rw [if_pos (.inr (.inr ⟨by rw [size_listB]; exact hz.1, by rw [hd0, hz.2]⟩))])
    have h1i : (1 : Int) < (s.size : Int) := by omega
    have b1 : ((s[0].toNat : Int) == 48) = true := by rw [hz.2]; rfl
    have b2 : (s[0].toNat : Int) = 48 := by rw [hz.2]; rfl
    clear hz hd0
    go_enter Tryz.func69, Tryz.ntmps69
    go_wp2
    go_ret
    exact ⟨ret_r HV.out, rfl⟩
  have HQ := Lib.hid (show ¬ (s.data.toList = [] ∨ 7 < s.data.toList.length ∨ (1 < s.data.toList.length ∧ s.data.toList.head? = some 48)) from fun e => e.elim HNE.out fun e => e.elim (fun h => h7 (by rw [← size_listB]; exact h)) fun h => hz ⟨by rw [← size_listB]; exact h.1, by have := h.2; rw [hd0] at this; exact Option.some.inj this⟩)
  have hz2 : (1 : Int) < (s.size : Int) → ((s[0].toNat : Int) == 48) = false := fun h => by
    have hx : ¬ s[0] = 48 := fun e => hz ⟨by omega, e⟩
    have : ¬ (s[0].toNat : Int) = 48 := fun e => hx (UInt8.toNat_inj.1 (by show s[0].toNat = 48; omega))
    simpa using this
  clear hz hd0
  have h8 : s.size ≤ 7 := by omega
  by_cases h1 : 1 < s.size
  · have h1i : (1 : Int) < (s.size : Int) := by omega
    have b1 := hz2 h1i
    have b2 : ¬ (s[0].toNat : Int) = 48 := by simpa using b1
    clear hz2
    go_enter Tryz.func69, Tryz.ntmps69
    go_wp2_with fail
    clear b1 b2
    go_loopw [3, 4] (fun s3 s4 wr => ∃ k n : Nat, k ≤ s.size ∧ s4 = .int .i64 k ∧ s3 = .int .i64 n ∧ Hid (n = numV (s.data.toList.take k)) ∧ Hid (n < 10 ^ k) ∧ Hid ((s.data.toList.take k).all digB = true) ∧ Hid (wr = w)) (fun _ s4 _ => s.size - (intOf s4).toNat)
    case atStart => exact ⟨0, 0, Nat.zero_le _, rfl, rfl, Lib.hid rfl, Lib.hid (by decide), Lib.hid rfl, Lib.hid rfl⟩
    case round =>
      obtain ⟨k, n, hk, rfl, rfl, HN, HP, HA, HW⟩ := hrel
      have k0 : (0 : Int) ≤ (k : Int) := Int.natCast_nonneg _
      have n0 : (0 : Int) ≤ (n : Int) := Int.natCast_nonneg _
      by_cases hlt : k < s.size
      · have hki : (k : Int) < (s.size : Int) := by omega
        have hget : s.data.toList[k]? = some s[k] := List.getElem?_eq_getElem (by rw [size_listB]; exact hlt)
        have hn6 : n < 1000000 := Nat.lt_of_lt_of_le HP.out (Nat.pow_le_pow_right (by decide) (show k ≤ 6 by omega))
        have hn6i : (n : Int) < 1000000 := by omega
        cases hc : digB s[k] with
        | false =>
          have HV := Lib.hid (show numP s.data.toList = (0, false) by unfold numP; rw [if_neg HQ.out, if_pos (all_bad hget hc)])
          have hc2 : s[k].toNat < 48 ∨ (¬ s[k].toNat < 48 ∧ 57 < s[k].toNat) := by
            unfold digB at hc
            rw [Bool.and_eq_false_iff, decide_eq_false_iff_not, decide_eq_false_iff_not] at hc
            omega
          rcases hc2 with h | ⟨h, h'⟩
          · have b1 : (s[k].toNat : Int) < 48 := by omega
            clear hc h
            go_wp2
            go_ret
            exact ⟨ret_r HV.out, HW.out⟩
          · have b1 : ¬ (s[k].toNat : Int) < 48 := by omega
            have b2 : (57 : Int) < (s[k].toNat : Int) := by omega
            clear hc h h'
            go_wp2
            go_ret
            exact ⟨ret_r HV.out, HW.out⟩
        | true =>
          have hc2 : 48 ≤ s[k].toNat ∧ s[k].toNat ≤ 57 := by
            unfold digB at hc
            rw [Bool.and_eq_true, decide_eq_true_iff, decide_eq_true_iff] at hc
            exact hc
          have HT := Lib.hid (take_snocB hget)
          have HN2 := Lib.hid (show 10 * n + (s[k].toNat - 48) = numV (s.data.toList.take (k + 1)) by rw [HT.out, numV_snoc, ← HN.out])
          have HP2 := Lib.hid (show 10 * n + (s[k].toNat - 48) < 10 ^ (k + 1) by rw [Nat.pow_succ]; have := HP.out; omega)
          have HA2 := Lib.hid (show (s.data.toList.take (k + 1)).all digB = true by rw [HT.out, List.all_append, HA.out]; simpa using hc)
          obtain ⟨d, hd⟩ : ∃ d : Nat, s[k].toNat = 48 + d := ⟨s[k].toNat - 48, by omega⟩
          have hd9 : d ≤ 9 := by omega
          have HD := Lib.hid (show s[k].toNat - 48 = d by omega)
          rw [HD.out] at HN2 HP2
          have b1 : ¬ (s[k].toNat : Int) < 48 := by omega
          have b2 : ¬ (57 : Int) < (s[k].toNat : Int) := by omega
          have b3 : (s[k].toNat : Int) - 48 = (d : Int) := by omega
          have d0 : (0 : Int) ≤ (d : Int) := Int.natCast_nonneg _
          have d9 : (d : Int) ≤ 9 := by omega
          clear hc hc2 hd HT HD
          go_wp2
          go_roundw
          case rel => exact ⟨k + 1, 10 * n + d, by omega, by go_num, by go_num, HN2, HP2, HA2, HW⟩
          case measure => simp [intOf]; omega
      · obtain rfl : k = s.size := by omega
        have HA2 := all_take (l := s.data.toList) (by rw [size_listB]; exact HA.out)
        have HN2 : n = numV s.data.toList := by rw [HN.out, ← size_listB, List.take_length]
        have hn7 : n < 10000000 := Nat.lt_of_lt_of_le HP.out (Nat.pow_le_pow_right (by decide) h8)
        have hn7i : (n : Int) < 10000000 := by omega
        by_cases hm : 1000000 < n
        · have HV := Lib.hid (show numP s.data.toList = (0, false) by unfold numP; rw [if_neg HQ.out, if_neg (by rw [HA2]; simp), if_pos (by rw [← HN2]; exact hm)])
          have hmi : (1000000 : Int) < (n : Int) := by omega
          clear HN2 HA2 hm
          go_wp2
          go_ret
          exact ⟨ret_r HV.out, HW.out⟩
        · have HV := Lib.hid (show numP s.data.toList = (n, true) by unfold numP; rw [if_neg HQ.out, if_neg (by rw [HA2]; simp), ← HN2, if_neg hm])
          have hmi : ¬ (1000000 : Int) < (n : Int) := by omega
          clear HN2 HA2 hm
          go_wp2
          go_ret
          exact ⟨ret_r HV.out, HW.out⟩
  · have h1i : ¬ (1 : Int) < (s.size : Int) := by omega
    clear hz2
    go_enter Tryz.func69, Tryz.ntmps69
    go_wp2_with fail
    go_loopw [3, 4] (fun s3 s4 wr => ∃ k n : Nat, k ≤ s.size ∧ s4 = .int .i64 k ∧ s3 = .int .i64 n ∧ Hid (n = numV (s.data.toList.take k)) ∧ Hid (n < 10 ^ k) ∧ Hid ((s.data.toList.take k).all digB = true) ∧ Hid (wr = w)) (fun _ s4 _ => s.size - (intOf s4).toNat)
    case atStart => exact ⟨0, 0, Nat.zero_le _, rfl, rfl, Lib.hid rfl, Lib.hid (by decide), Lib.hid rfl, Lib.hid rfl⟩
    case round =>
      obtain ⟨k, n, hk, rfl, rfl, HN, HP, HA, HW⟩ := hrel
      have k0 : (0 : Int) ≤ (k : Int) := Int.natCast_nonneg _
      have n0 : (0 : Int) ≤ (n : Int) := Int.natCast_nonneg _
      by_cases hlt : k < s.size
      · have hki : (k : Int) < (s.size : Int) := by omega
        have hget : s.data.toList[k]? = some s[k] := List.getElem?_eq_getElem (by rw [size_listB]; exact hlt)
        have hn6 : n < 1000000 := Nat.lt_of_lt_of_le HP.out (Nat.pow_le_pow_right (by decide) (show k ≤ 6 by omega))
        have hn6i : (n : Int) < 1000000 := by omega
        cases hc : digB s[k] with
        | false =>
          have HV := Lib.hid (show numP s.data.toList = (0, false) by unfold numP; rw [if_neg HQ.out, if_pos (all_bad hget hc)])
          have hc2 : s[k].toNat < 48 ∨ (¬ s[k].toNat < 48 ∧ 57 < s[k].toNat) := by
            unfold digB at hc
            rw [Bool.and_eq_false_iff, decide_eq_false_iff_not, decide_eq_false_iff_not] at hc
            omega
          rcases hc2 with h | ⟨h, h'⟩
          · have b1 : (s[k].toNat : Int) < 48 := by omega
            clear hc h
            go_wp2
            go_ret
            exact ⟨ret_r HV.out, HW.out⟩
          · have b1 : ¬ (s[k].toNat : Int) < 48 := by omega
            have b2 : (57 : Int) < (s[k].toNat : Int) := by omega
            clear hc h h'
            go_wp2
            go_ret
            exact ⟨ret_r HV.out, HW.out⟩
        | true =>
          have hc2 : 48 ≤ s[k].toNat ∧ s[k].toNat ≤ 57 := by
            unfold digB at hc
            rw [Bool.and_eq_true, decide_eq_true_iff, decide_eq_true_iff] at hc
            exact hc
          have HT := Lib.hid (take_snocB hget)
          have HN2 := Lib.hid (show 10 * n + (s[k].toNat - 48) = numV (s.data.toList.take (k + 1)) by rw [HT.out, numV_snoc, ← HN.out])
          have HP2 := Lib.hid (show 10 * n + (s[k].toNat - 48) < 10 ^ (k + 1) by rw [Nat.pow_succ]; have := HP.out; omega)
          have HA2 := Lib.hid (show (s.data.toList.take (k + 1)).all digB = true by rw [HT.out, List.all_append, HA.out]; simpa using hc)
          obtain ⟨d, hd⟩ : ∃ d : Nat, s[k].toNat = 48 + d := ⟨s[k].toNat - 48, by omega⟩
          have hd9 : d ≤ 9 := by omega
          have HD := Lib.hid (show s[k].toNat - 48 = d by omega)
          rw [HD.out] at HN2 HP2
          have b1 : ¬ (s[k].toNat : Int) < 48 := by omega
          have b2 : ¬ (57 : Int) < (s[k].toNat : Int) := by omega
          have b3 : (s[k].toNat : Int) - 48 = (d : Int) := by omega
          have d0 : (0 : Int) ≤ (d : Int) := Int.natCast_nonneg _
          have d9 : (d : Int) ≤ 9 := by omega
          clear hc hc2 hd HT HD
          go_wp2
          go_roundw
          case rel => exact ⟨k + 1, 10 * n + d, by omega, by go_num, by go_num, HN2, HP2, HA2, HW⟩
          case measure => simp [intOf]; omega
      · obtain rfl : k = s.size := by omega
        have HA2 := all_take (l := s.data.toList) (by rw [size_listB]; exact HA.out)
        have HN2 : n = numV s.data.toList := by rw [HN.out, ← size_listB, List.take_length]
        have hn7 : n < 10000000 := Nat.lt_of_lt_of_le HP.out (Nat.pow_le_pow_right (by decide) h8)
        have hn7i : (n : Int) < 10000000 := by omega
        by_cases hm : 1000000 < n
        · have HV := Lib.hid (show numP s.data.toList = (0, false) by unfold numP; rw [if_neg HQ.out, if_neg (by rw [HA2]; simp), if_pos (by rw [← HN2]; exact hm)])
          have hmi : (1000000 : Int) < (n : Int) := by omega
          clear HN2 HA2 hm
          go_wp2
          go_ret
          exact ⟨ret_r HV.out, HW.out⟩
        · have HV := Lib.hid (show numP s.data.toList = (n, true) by unfold numP; rw [if_neg HQ.out, if_neg (by rw [HA2]; simp), ← HN2, if_neg hm])
          have hmi : ¬ (1000000 : Int) < (n : Int) := by omega
          clear HN2 HA2 hm
          go_wp2
          go_ret
          exact ⟨ret_r HV.out, HW.out⟩
end Go.Proofs.YtanjcjnkppnhcaaGreatDoor
