/-
  rectoref17.word, blank: the first word of a text behind blanks, and the rest.
-/
import Derived.Test.YtanjcjnkppnhcaaGreatDoorTdA
import Derived.Lib.IndexLaws
namespace Go.Proofs.YtanjcjnkppnhcaaGreatDoor
open Go Go.RowKit

theorem trim_at : ∀ (l : List UInt8) (i : Nat), (∀ j, j < i → l[j]? = some 32) → l[i]? ≠ some 32 → Lib.trimLeftB l 32 = l.drop i
  | [], i, _, _ => by unfold Lib.trimLeftB; simp
  | c :: l, 0, _, h => by
    have hc : c ≠ 32 := by simpa using h
    unfold Lib.trimLeftB
    rw [List.dropWhile_cons_of_neg (by simpa using hc)]
    rfl
  | c :: l, i + 1, h, h2 => by
    have hc : c = 32 := by simpa using h 0 (by omega)
    have := trim_at l i (fun j hj => by simpa using h (j + 1) (by omega)) (by simpa using h2)
    unfold Lib.trimLeftB at this ⊢
    rw [List.dropWhile_cons_of_pos (by simpa using hc), this]
    rfl
theorem word_at {l : List UInt8} {i k : Nat} (hik : i ≤ k) (hk : k ≤ l.length) (hb : ∀ j, j < i → l[j]? = some 32) (hi : l[i]? ≠ some 32) (hw : ∀ j, i ≤ j → j < k → l[j]? ≠ some 32) (he : k = l.length ∨ l[k]? = some 32) : wordP l = ((l.take k).drop i, l.drop k) := by
  unfold wordP
  rw [trim_at l i hb hi]
  have hg : ∀ j, (l.drop i)[j]? = l[i + j]? := fun j => List.getElem?_drop
  by_cases hx : Lib.indexByte (l.drop i) 32 < 0
  · rw [if_pos hx]
    have hx1 : Lib.indexByte (l.drop i) 32 = -1 := by have := Lib.indexByte_ge (l.drop i) 32; omega
    have hn := Lib.indexByte_none hx1
    have hke : k = l.length := he.elim id fun h => absurd (show (l.drop i)[k - i]? = some 32 by rw [hg, show i + (k - i) = k by omega]; exact h) (hn _)
    subst hke
    rw [List.take_length, List.drop_length]
  · rw [if_neg hx]
    obtain ⟨o, ho⟩ : ∃ o : Nat, Lib.indexByte (l.drop i) 32 = (o : Int) := ⟨(Lib.indexByte (l.drop i) 32).toNat, by omega⟩
    obtain ⟨h1, h2⟩ := Lib.indexByte_some ho
    rw [hg] at h1
    have hok : i + o = k := by
      rcases Nat.lt_trichotomy (i + o) k with h | h | h
      · exact absurd h1 (hw _ (by omega) h)
      · exact h
      · have hol := (List.getElem?_eq_some_iff.1 h1).1
        rcases he with e | e
        · omega
        · exact absurd (show (l.drop i)[k - i]? = some 32 by rw [hg, show i + (k - i) = k by omega]; exact e) (h2 _ (by omega))
    rw [ho, Int.toNat_natCast, List.drop_drop, hok, show o = k - i by omega, List.drop_take]
set_option maxHeartbeats 2000000 in
theorem refWord_any (s : ByteArray) (w : World) (hs : s.size ≤ 9223372036854775807) : Calls Tryz.prog 38 #[.string s] w fun e w' => e = .returned (.tuple #[.string (mkW (wordP s.data.toList).1), .string (mkW (wordP s.data.toList).2)]) ∧ ∃ d, w' = w.drewN d := by
  have l0 : (0 : Int) ≤ (s.size : Int) := Int.natCast_nonneg _
  have l9 : (s.size : Int) ≤ 9223372036854775807 := by omega
  go_enter Tryz.func38, Tryz.ntmps38
  go_wp2_with fail
  go_loopw [4] (fun s4 wr => ∃ i : Nat, i ≤ s.size ∧ s4 = .int .i64 i ∧ Hid (∀ j, j < i → s.data.toList[j]? = some 32) ∧ Hid (wr = w)) (fun s4 _ => s.size - (intOf s4).toNat)
  case atStart => exact ⟨0, Nat.zero_le _, rfl, Lib.hid (fun j hj => absurd hj (Nat.not_lt_zero _)), Lib.hid rfl⟩
  case round =>
    obtain ⟨i, hi, rfl, HB, HW⟩ := hrel
    have i0 : (0 : Int) ≤ (i : Int) := Int.natCast_nonneg _
    by_cases hlt : i < s.size
    · have hli : (i : Int) < (s.size : Int) := by omega
      have hg : s.data.toList[i]? = some s[i] := List.getElem?_eq_getElem (by rw [size_listB]; exact hlt)
      by_cases hc : s[i] = 32
      · have b1 : (s[i].toNat : Int) = 32 := by rw [hc]; rfl
        have b2 : ((s[i].toNat : Int) == 32) = true := by simpa using b1
        have HB2 := Lib.hid (show ∀ j, j < i + 1 → s.data.toList[j]? = some 32 from fun j hj => by
          by_cases h : j < i
          · exact HB.out j h
          · obtain rfl : j = i := by omega
            rw [hg, hc])
        clear hg hc
        go_wp2
        go_roundw
        case rel => exact ⟨i + 1, by omega, by go_num, HB2, HW⟩
        case measure => simp [intOf]; omega
      · have b1 : ¬ (s[i].toNat : Int) = 32 := fun e => hc (UInt8.toNat_inj.1 (by show s[i].toNat = 32; omega))
        have b2 : ((s[i].toNat : Int) == 32) = false := by simpa using b1
        have HI := Lib.hid (show s.data.toList[i]? ≠ some 32 by rw [hg]; exact fun e => hc (Option.some.inj e))
        clear hg hc
        go_wp2_with fail
        clear b1 b2
        go_loopw [5] (fun s5 wr => ∃ k : Nat, i ≤ k ∧ k ≤ s.size ∧ s5 = .int .i64 k ∧ Hid (∀ j, i ≤ j → j < k → s.data.toList[j]? ≠ some 32) ∧ Hid (wr = w)) (fun s5 _ => s.size - (intOf s5).toNat)
        case atStart => exact ⟨i, Nat.le_refl _, hi, rfl, Lib.hid (fun j h1 h2 => absurd h2 (by omega)), HW⟩
        case round =>
          clear HW
          obtain ⟨k, hik, hk, rfl, HK, HW⟩ := hrel
          have k0 : (0 : Int) ≤ (k : Int) := Int.natCast_nonneg _
          have iki : (i : Int) ≤ (k : Int) := by omega
          have kki : (k : Int) ≤ (s.size : Int) := by omega
          have FIN : Hid ((k = s.data.toList.length ∨ s.data.toList[k]? = some 32) → Ending.returned (.tuple #[.string (s.extract i k), .string (s.extract k s.size)]) = .returned (.tuple #[.string (mkW (wordP s.data.toList).1), .string (mkW (wordP s.data.toList).2)])) := Lib.hid fun he => by
            rw [word_at hik (by rw [size_listB]; exact hk) HB.out HI.out HK.out he, extract_mkW, extract_mkW, ← size_listB, List.take_length]
          by_cases hkl : k < s.size
          · have hkli : (k : Int) < (s.size : Int) := by omega
            have hgk : s.data.toList[k]? = some s[k] := List.getElem?_eq_getElem (by rw [size_listB]; exact hkl)
            by_cases hc2 : s[k] = 32
            · have c1 : (s[k].toNat : Int) = 32 := by rw [hc2]; rfl
              have c2 : ((s[k].toNat : Int) == 32) = true := by simpa using c1
              have c3 : ((s[k].toNat : Int) != 32) = false := by simpa using c1
              have F2 := Lib.hid (FIN.out (.inr (by rw [hgk, hc2])))
              clear hgk hc2 FIN
              go_wp2_with fail
              go_region
              go_wp2
              go_ret2
              exact ⟨F2.out, 1, by rw [← HW.out]; rfl⟩
            · have c1 : ¬ (s[k].toNat : Int) = 32 := fun e => hc2 (UInt8.toNat_inj.1 (by show s[k].toNat = 32; omega))
              have c2 : ((s[k].toNat : Int) == 32) = false := by simpa using c1
              have c3 : ((s[k].toNat : Int) != 32) = true := by simpa using c1
              have HK2 := Lib.hid (show ∀ j, i ≤ j → j < k + 1 → s.data.toList[j]? ≠ some 32 from fun j h1 h2 => by
                by_cases hj : j < k
                · exact HK.out j h1 hj
                · obtain rfl : j = k := by omega
                  rw [hgk]
                  exact fun e => hc2 (Option.some.inj e))
              clear hgk hc2 FIN
              go_wp2
              go_roundw
              case rel => exact ⟨k + 1, by omega, by omega, by go_num, HK2, HW⟩
              case measure => simp [intOf]; omega
          · obtain rfl : k = s.size := by omega
            have F2 := FIN.out (.inl (size_listB s).symm)
            rw [show s.extract s.size s.size = ByteArray.empty from bytesB_eq (by rw [extract_mkW, list_mkW, ← size_listB, List.take_length, List.drop_length]; rfl)] at F2
            have F2 := Lib.hid F2
            clear FIN
            go_wp2_with fail
            go_region
            go_wp2
            go_ret2
            exact ⟨F2.out, 1, by rw [← HW.out]; rfl⟩
    · obtain rfl : i = s.size := by omega
      have HI := Lib.hid (show s.data.toList[s.size]? ≠ some 32 by rw [← size_listB, List.getElem?_eq_none (Nat.le_refl _)]; simp)
      obtain ⟨i, hie⟩ : ∃ i, i = s.size := ⟨_, rfl⟩
      have HE := Lib.hid hie
      rw [← hie] at HB HI
      go_wp2_with fail
      rw [← hie]
      clear hie
      have hi : i ≤ s.size := by have := HE.out; omega
      go_loopw [5] (fun s5 wr => ∃ k : Nat, i ≤ k ∧ k ≤ s.size ∧ s5 = .int .i64 k ∧ Hid (∀ j, i ≤ j → j < k → s.data.toList[j]? ≠ some 32) ∧ Hid (wr = w)) (fun s5 _ => s.size - (intOf s5).toNat)
      case atStart => exact ⟨i, Nat.le_refl _, hi, rfl, Lib.hid (fun j h1 h2 => absurd h2 (by omega)), HW⟩
      case round =>
        clear HW
        obtain ⟨k, hik, hk, rfl, HK, HW⟩ := hrel
        have k0 : (0 : Int) ≤ (k : Int) := Int.natCast_nonneg _
        have iki : (i : Int) ≤ (k : Int) := by omega
        have kki : (k : Int) ≤ (s.size : Int) := by omega
        have FIN : Hid ((k = s.data.toList.length ∨ s.data.toList[k]? = some 32) → Ending.returned (.tuple #[.string (s.extract i k), .string (s.extract k s.size)]) = .returned (.tuple #[.string (mkW (wordP s.data.toList).1), .string (mkW (wordP s.data.toList).2)])) := Lib.hid fun he => by
          rw [word_at hik (by rw [size_listB]; exact hk) HB.out HI.out HK.out he, extract_mkW, extract_mkW, ← size_listB, List.take_length]
        by_cases hkl : k < s.size
        · have hkli : (k : Int) < (s.size : Int) := by omega
          have hgk : s.data.toList[k]? = some s[k] := List.getElem?_eq_getElem (by rw [size_listB]; exact hkl)
          by_cases hc2 : s[k] = 32
          · have c1 : (s[k].toNat : Int) = 32 := by rw [hc2]; rfl
            have c2 : ((s[k].toNat : Int) == 32) = true := by simpa using c1
            have c3 : ((s[k].toNat : Int) != 32) = false := by simpa using c1
            have F2 := Lib.hid (FIN.out (.inr (by rw [hgk, hc2])))
            clear hgk hc2 FIN
            go_wp2_with fail
            go_region
            go_wp2
            go_ret2
            exact ⟨F2.out, 1, by rw [← HW.out]; rfl⟩
          · have c1 : ¬ (s[k].toNat : Int) = 32 := fun e => hc2 (UInt8.toNat_inj.1 (by show s[k].toNat = 32; omega))
            have c2 : ((s[k].toNat : Int) == 32) = false := by simpa using c1
            have c3 : ((s[k].toNat : Int) != 32) = true := by simpa using c1
            have HK2 := Lib.hid (show ∀ j, i ≤ j → j < k + 1 → s.data.toList[j]? ≠ some 32 from fun j h1 h2 => by
              by_cases hj : j < k
              · exact HK.out j h1 hj
              · obtain rfl : j = k := by omega
                rw [hgk]
                exact fun e => hc2 (Option.some.inj e))
            clear hgk hc2 FIN
            go_wp2
            go_roundw
            case rel => exact ⟨k + 1, by omega, by omega, by go_num, HK2, HW⟩
            case measure => simp [intOf]; omega
        · obtain rfl : k = s.size := by omega
          have F2 := FIN.out (.inl (size_listB s).symm)
          rw [show s.extract s.size s.size = ByteArray.empty from bytesB_eq (by rw [extract_mkW, list_mkW, ← size_listB, List.take_length, List.drop_length]; rfl)] at F2
          have F2 := Lib.hid F2
          clear FIN
          go_wp2_with fail
          go_region
          go_wp2
          go_ret2
          exact ⟨F2.out, 1, by rw [← HW.out]; rfl⟩
end Go.Proofs.YtanjcjnkppnhcaaGreatDoor
