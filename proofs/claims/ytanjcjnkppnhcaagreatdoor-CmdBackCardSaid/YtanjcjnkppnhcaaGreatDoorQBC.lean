/-
  What it says that words are a command: the words' form.
  rectoref17.cut: a text at its first byte of a kind.
  rectoref17.fields: words with single blanks between.
  rectoref17.Hear: what its walk holds.
-/
import Derived.Test.YtanjcjnkppnhcaaGreatDoorQBB
import Derived.Test.YtanjcjnkppnhcaaGreatDoorQAZ
import Derived.OwnWalk
import Derived.Test.YtanjcjnkppnhcaaGreatDoorQAR
import Derived.Test.YtanjcjnkppnhcaaGreatDoorQAV

namespace Go.Proofs.YtanjcjnkppnhcaaGreatDoor
open Go Go.RowKit

theorem parseK_ok {s : List UInt8} {k : Nat} {nm : ByteArray} {n : Nat} {tx : ByteArray} {f : Bool} {l : List Fl} (h : parseK s = .ok k nm n tx f l) :
    k < 20 ∧ mkW (cutL 32 (cutL 10 s).1).1 = vB k ∧ (k ≠ 14 → (cutL 10 s).2.2 = false) ∧ readK k (mkW (cutL 32 (cutL 10 s).1).2.1) (cutL 32 (cutL 10 s).1).2.2 = some (nm, n, tx, f) ∧ parseP (nls (cutL 10 s).2.1) 0 [] = .inl l ∧ checkK k nm (n : Int) tx l = 0 := by
  rcases place_cases (mkW (cutL 32 (cutL 10 s).1).1) with hp | ⟨j, hj, hv, hp⟩
  · unfold parseK at h
    rw [if_pos hp] at h
    cases h
  · rw [PR.place hp] at h
    unfold parseV at h
    split at h
    · cases h
    · rename_i hl
      unfold parseR at h
      split at h
      · cases h
      · rename_i x hx
        split at h
        · cases h
        · rename_i l' hl'
          split at h
          · cases h
          · rename_i hc
            injection h with e1 e2 e3 e4 e5 e6
            subst e1
            subst e2
            subst e3
            subst e4
            subst e5
            subst e6
            refine ⟨hj, hv, fun hk => ?_, ?_, hl', Classical.not_not.1 hc⟩
            · cases hb : (cutL 10 s).2.2 with
              | false => rfl
              | true => exact absurd ⟨hb, hk⟩ hl
            · exact hx
theorem cut_gone : ∀ {c : UInt8} {l : List UInt8}, (cutL c l).2.2 = false → (cutL c l).2.1 = []
  | _, [], _ => rfl
  | c, a :: l, h => by
    by_cases ha : a = c
    · unfold cutL at h; rw [if_pos ha] at h; cases h
    · unfold cutL at h ⊢
      rw [if_neg ha] at h ⊢
      exact cut_gone h
theorem readK_text {k : Nat} {said : ByteArray} {given : Bool} {nm : ByteArray} {n : Nat} {tx : ByteArray} {f : Bool} (hk : hasTK k = true) (h : readK k said given = some (nm, n, tx, f)) : nm = ⟨#[]⟩ ∧ n = 0 ∧ tx = said ∧ f = false ∧ (given = false ∨ said ≠ ⟨#[]⟩) := by
  unfold readK at h
  rw [if_pos hk] at h
  split at h
  · rename_i hg
    cases h
    exact ⟨rfl, rfl, rfl, rfl, hg⟩
  · cases h
theorem readK_words {k : Nat} {said : ByteArray} {given : Bool} {nm : ByteArray} {n : Nat} {tx : ByteArray} {f : Bool} (hk : hasTK k = false) (h : readK k said given = some (nm, n, tx, f)) :
    (∀ x ∈ wordsK said given, x ≠ ⟨#[]⟩) ∧ tx = ⟨#[]⟩ ∧ ((f = true ∧ hasFK k = true ∧ ∃ x, wordsK said given = [x, bForce] ∧ readW k [x] = some (nm, n)) ∨
      (f = false ∧ (hasFK k = true → ∀ x, wordsK said given ≠ [x, bForce]) ∧ readW k (wordsK said given) = some (nm, n))) := by
  unfold readK at h
  rw [if_neg (by rw [hk]; simp)] at h
  split at h
  · cases h
  · rename_i hb
    have hno := hasB_no (by simpa using hb)
    refine ⟨hno, ?_⟩
    generalize wordsK said given = ss at *
    split at h
    · rename_i hf
      obtain ⟨y, hy, he⟩ := Option.map_eq_some_iff.1 h
      cases he
      refine ⟨rfl, .inl ⟨rfl, hf.1, ?_⟩⟩
      obtain ⟨a, b, rfl⟩ := two_of hf.2.1
      have e2 := hf.2.2
      simp at e2
      subst e2
      exact ⟨a, rfl, hy⟩
    · rename_i hf
      obtain ⟨y, hy, he⟩ := Option.map_eq_some_iff.1 h
      cases he
      refine ⟨rfl, .inr ⟨rfl, fun h1 x e => ?_, hy⟩⟩
      subst e
      exact hf ⟨h1, rfl, rfl⟩
/-- The one word that some verbs have. -/
theorem readW_one {k : Nat} (hk : k = 1 ∨ k = 3 ∨ k = 4 ∨ k = 5 ∨ k = 7 ∨ k = 8 ∨ k = 9 ∨ k = 11 ∨ k = 12 ∨ k = 13 ∨ k = 14) {ss : List ByteArray} {y : ByteArray × Nat} (h : readW k ss = some y) : ∃ x, ss = [x] := by
  match ss with
  | [x] => exact ⟨x, rfl⟩
  | [] => rcases hk with rfl | rfl | rfl | rfl | rfl | rfl | rfl | rfl | rfl | rfl | rfl <;> cases h
  | _ :: _ :: _ => rcases hk with rfl | rfl | rfl | rfl | rfl | rfl | rfl | rfl | rfl | rfl | rfl <;> cases h
theorem readW_names {k : Nat} (hk : k = 0 ∨ k = 1 ∨ k = 3 ∨ k = 4 ∨ k = 7) {x : ByteArray} {nm : ByteArray} {n : Nat} (h : readW k [x] = some (nm, n)) : nm = x ∧ n = 0 := by
  rcases hk with rfl | rfl | rfl | rfl | rfl <;> (cases h; exact ⟨rfl, rfl⟩)
theorem readW_nums {k : Nat} (hk : k = 8 ∨ k = 9 ∨ k = 11 ∨ k = 12 ∨ k = 13 ∨ k = 14) {x : ByteArray} {nm : ByteArray} {n : Nat} (h : readW k [x] = some (nm, n)) : nm = ⟨#[]⟩ ∧ num1 x = some n := by
  have : (num1 x).map (fun n => ((⟨#[]⟩ : ByteArray), n)) = some (nm, n) := by rcases hk with rfl | rfl | rfl | rfl | rfl | rfl <;> exact h
  obtain ⟨y, hy, he⟩ := Option.map_eq_some_iff.1 this
  cases he
  exact ⟨rfl, hy⟩
theorem readW_two {ss : List ByteArray} {nm : ByteArray} {n : Nat} (h : readW 6 ss = some (nm, n)) : ∃ y, ss = [nm, y] ∧ num1 y = some n := by
  match ss with
  | [x, y] =>
    have : (num1 y).map (fun n => (x, n)) = some (nm, n) := h
    obtain ⟨z, hz, he⟩ := Option.map_eq_some_iff.1 this
    cases he
    exact ⟨y, rfl, hz⟩
  | [] => cases h
  | [_] => cases h
  | _ :: _ :: _ :: _ => cases h
theorem readW_zero {ss : List ByteArray} {nm : ByteArray} {n : Nat} (h : readW 0 ss = some (nm, n)) : (ss = [] ∧ nm = ⟨#[]⟩ ∧ n = 0) ∨ (∃ x, ss = [x] ∧ nm = x ∧ n = 0) := by
  match ss with
  | [] => cases h; exact .inl ⟨rfl, rfl, rfl⟩
  | [x] => cases h; exact .inr ⟨_, rfl, rfl, rfl⟩
  | _ :: _ :: _ => cases h
theorem readW_none {k : Nat} (hk : k = 2 ∨ k = 10 ∨ k = 15 ∨ k = 16 ∨ k = 17 ∨ k = 18 ∨ k = 19) {ss : List ByteArray} {nm : ByteArray} {n : Nat} (h : readW k ss = some (nm, n)) : ss = [] ∧ nm = ⟨#[]⟩ ∧ n = 0 := by
  match ss with
  | [] => rcases hk with rfl | rfl | rfl | rfl | rfl | rfl | rfl <;> (cases h; exact ⟨rfl, rfl, rfl⟩)
  | _ :: _ => rcases hk with rfl | rfl | rfl | rfl | rfl | rfl | rfl <;> cases h
theorem num1_numR {x : ByteArray} {n : Nat} (h : num1 x = some n) : numR x.data.toList = (n : Int) := by
  unfold num1 at h
  split at h
  · rename_i h2
    unfold numR
    rw [if_pos h2]
    cases h
    rfl
  · cases h
end Go.Proofs.YtanjcjnkppnhcaaGreatDoor

namespace Go.Proofs.YtanjcjnkppnhcaaGreatDoor
open Go Go.RowKit

theorem cutL_at (c : UInt8) : ∀ (l : List UInt8) (i : Nat), l[i]? = some c → (∀ k : Nat, k < i → l[k]? ≠ some c) → cutL c l = (l.take i, l.drop (i + 1), true)
  | [], _, h, _ => by simp at h
  | a :: l, 0, h, _ => by
    have ha : a = c := by simpa using h
    unfold cutL
    rw [if_pos ha]
    simp
  | a :: l, i + 1, h, hb => by
    have ha : ¬ a = c := fun e => hb 0 (by omega) (by rw [e]; rfl)
    unfold cutL
    rw [if_neg ha, cutL_at c l i (by simpa using h) fun k hk hh => hb (k + 1) (by omega) (by simpa using hh)]
    simp
theorem cutL_not (c : UInt8) : ∀ l : List UInt8, (∀ k : Nat, l[k]? ≠ some c) → cutL c l = (l, [], false)
  | [], _ => rfl
  | a :: l, h => by
    have ha : ¬ a = c := fun e => h 0 (by rw [e]; rfl)
    unfold cutL
    rw [if_neg ha, cutL_not c l fun k hk => h (k + 1) (by simpa using hk)]
theorem mkW_take (s : ByteArray) (i : Nat) : mkW (s.data.toList.take i) = s.extract 0 i := by
  rw [extract_mkW, List.drop_zero]
theorem mkW_drop (s : ByteArray) (i : Nat) : mkW (s.data.toList.drop i) = s.extract i s.size := by
  rw [extract_mkW, ← size_listB, List.take_length]
set_option maxRecDepth 100000 in
set_option maxHeartbeats 4000000 in
theorem refCut_any (s : ByteArray) (c : UInt8) (w : World) (hs : s.size ≤ 1000000) : Calls Tryz.prog 67 #[.string s, .int .u8 c.toNat] w fun e w' => e = .returned (.tuple #[.string (mkW (cutL c s.data.toList).1), .string (mkW (cutL c s.data.toList).2.1), .bool (cutL c s.data.toList).2.2]) ∧ ∃ n, w' = w.drewN n := by
  have l0 : (0 : Int) ≤ (s.size : Int) := Int.natCast_nonneg _
  have l9 : (s.size : Int) ≤ 1000000 := by omega
  have HS := Lib.hid hs
  clear hs
  go_enter Tryz.func67, Tryz.ntmps67
  go_wp2_with fail
  go_loopw [7] (fun s7 wr => ∃ i : Nat, i ≤ s.size ∧ s7 = .int .i64 i ∧ Hid (∀ k : Nat, k < i → s.data.toList[k]? ≠ some c) ∧ Hid (∃ n, wr = w.drewN n)) (fun s7 _ => s.size - (intOf s7).toNat)
  case atStart => exact ⟨0, Nat.zero_le _, rfl, Lib.hid fun k hk => absurd hk (by omega), Lib.hid ⟨0, rfl⟩⟩
  case round =>
    obtain ⟨i, hi, rfl, HN, HW⟩ := hrel
    have i0 : (0 : Int) ≤ (i : Int) := Int.natCast_nonneg _
    by_cases hlt : i < s.size
    · have hli : (i : Int) < (s.size : Int) := by omega
      have hget : s.data.toList[i]? = some s[i] := List.getElem?_eq_getElem (by rw [size_listB]; exact hlt)
      have HLT := Lib.hid hlt
      by_cases hc : s[i] = c
      · have b1 : ((s[i].toNat : Int) == (c.toNat : Int)) = true := by rw [hc]; simp
        have b2 : ((s[i].toNat : Int) = (c.toNat : Int)) := by rw [hc]
        have HV := Lib.hid (cutL_at c s.data.toList i (hget.trans (congrArg some hc)) HN.out)
        have w1 : IntKind.i64.wrap ((i : Int) + 1) = (i : Int) + 1 := by rw [IntKind.wrap_i64] <;> omega
        clear hget hc HN hi
        go_wp2
        go_region
        go_wp2
        go_ret3
        refine ⟨?_, by obtain ⟨n, hn⟩ := HW.out; exact ⟨n + 1, by rw [hn]; rfl⟩⟩
        rw [HV.out]
        simp only [mkW_take, mkW_drop]
        rfl
      · have b1 : ((s[i].toNat : Int) == (c.toNat : Int)) = false := by
          rw [beq_eq_false_iff_ne]; intro e; exact hc (UInt8.toNat_inj.1 (by omega))
        have b2 : ¬ ((s[i].toNat : Int) = (c.toNat : Int)) := fun e => hc (UInt8.toNat_inj.1 (by omega))
        have HN2 := Lib.hid (show ∀ k : Nat, k < i + 1 → s.data.toList[k]? ≠ some c from fun k hk hh => by
          rcases Nat.lt_or_ge k i with h | h
          · exact HN.out k h hh
          · obtain rfl : k = i := by omega
            rw [hget] at hh
            exact hc (Option.some.inj hh))
        clear hget hc HN hi
        go_wp2
        go_roundw
        case rel => exact ⟨i + 1, by have := HLT.out; omega, by go_num, HN2, HW⟩
        case measure => have := HLT.out; simp [intOf]; omega
    · obtain rfl : i = s.size := by omega
      have HV := Lib.hid (cutL_not c s.data.toList fun k hk => by
        have : k < s.size := by rw [← size_listB]; exact (List.getElem?_eq_some_iff.1 hk).1
        exact HN.out k this hk)
      clear HN hi hlt
      go_wp2
      go_ret3
      exact ⟨by rw [HV.out]; simp only [mkW_list]; rfl, HW.out⟩
end Go.Proofs.YtanjcjnkppnhcaaGreatDoor

namespace Go.Proofs.YtanjcjnkppnhcaaGreatDoor
open Go Go.RowKit

theorem fls_cut : ∀ l : List UInt8, fls l = (cutL 32 l).1 :: (if (cutL 32 l).2.2 = true then fls (cutL 32 l).2.1 else [])
  | [] => by simp [fls, cutL]
  | a :: l => by
    by_cases ha : a = 32
    · have h1 : fls (a :: l) = [] :: fls l := by rw [fls, if_pos ha]
      have h2 : cutL 32 (a :: l) = ([], l, true) := by rw [cutL, if_pos ha]
      rw [h1, h2]
      simp
    · have h1 : fls (a :: l) = match fls l with | [] => [[a]] | x :: xs => (a :: x) :: xs := by rw [fls, if_neg ha]; rfl
      have h2 : cutL 32 (a :: l) = (a :: (cutL 32 l).1, (cutL 32 l).2.1, (cutL 32 l).2.2) := by rw [cutL, if_neg ha]
      rw [h1, h2, fls_cut l]
def strLen : Value → Nat | .string s => s.size | _ => 0
def boolN : Value → Nat | .bool true => 1 | _ => 0
theorem cutL_rest {l : List UInt8} (h : (cutL 32 l).2.2 = true) : (cutL 32 l).2.1.length < l.length := by
  induction l with
  | nil => simp [cutL] at h
  | cons a l ih =>
    by_cases ha : a = 32
    · unfold cutL; rw [if_pos ha]; simp
    · unfold cutL at h ⊢
      rw [if_neg ha] at h ⊢
      have := ih h
      simp
      omega
theorem cutL_gone {l : List UInt8} (h : (cutL 32 l).2.2 = false) : (cutL 32 l).2.1 = [] := by
  induction l with
  | nil => simp [cutL]
  | cons a l ih =>
    by_cases ha : a = 32
    · unfold cutL at h; rw [if_pos ha] at h; cases h
    · unfold cutL at h ⊢
      rw [if_neg ha] at h ⊢
      exact ih h
def FieldsTo (L : List ByteArray) (w : World) (e : Ending) (w' : World) : Prop := ∃ A c, e = .returned (.slice A L.length c) ∧ w'.ownsRow w.heap.size 9 1 (.slice A L.length c) L.length (L.map Value.string) ∧ Below w.heap.size w w'
set_option maxRecDepth 100000 in
set_option maxHeartbeats 4000000 in
theorem fields_any (s : ByteArray) (w : World) (hs : s.size ≤ 100000) : Calls Tryz.prog 68 #[.string s] w (FieldsTo ((fls s.data.toList).map mkW) w) := by
  obtain ⟨L, hL⟩ : ∃ L, L = (fls s.data.toList).map mkW := ⟨_, rfl⟩
  have HL := Lib.hid (show L = [] ++ (fls s.data.toList).map mkW from hL)
  rw [← hL]
  have O0 := Lib.hid (World.ownsRow_nil (base := w.heap.size) (e := 9) (size := 1) w)
  have B0 := Lib.hid (Below.refl w.heap.size w)
  obtain ⟨B, hB⟩ : ∃ B, B = w.heap.size := ⟨_, rfl⟩
  have HB := Lib.hid hB
  rw [← hB] at O0 B0
  have HS := Lib.hid (show ([] : List ByteArray).length + s.size ≤ s.size ∧ s.size ≤ 100000 by simp [hs])
  clear hL hB hs
  go_enter Tryz.func68, Tryz.ntmps68
  go_wp2_with fail
  go_loopw [0, 3, 4] (fun s0 s3 s4 wr => ∃ (r : ByteArray) (ss : List ByteArray) (b : Bool), s0 = .string r ∧ s4 = .bool b ∧ Hid (L = ss ++ (if b = true then (fls r.data.toList).map mkW else [])) ∧ Hid (wr.ownsRow B 9 1 s3 ss.length (ss.map Value.string)) ∧ Hid (Below B w wr) ∧ Hid (ss.length + r.size ≤ 100001 ∧ (b = true → ss.length + r.size ≤ 100000))) (fun s0 _ s4 _ => strLen s0 + boolN s4)
  case atStart => exact ⟨s, [], true, rfl, rfl, Lib.hid (by rw [if_pos rfl]; exact HL.out), O0, B0, Lib.hid (by have := HS.out; simp at this ⊢; omega)⟩
  case round =>
    clear O0 B0 HL
    obtain ⟨r, ss, b, rfl, rfl, HL, HO, HW, HZ⟩ := hrel
    cases b with
    | false =>
      have HF := Lib.hid (show L = ss by have := HL.out; rw [if_neg (by simp), List.append_nil] at this; exact this)
      clear HL HZ HS
      obtain ⟨A, c, rfl⟩ := own_form HO.out
      go_wp2
      go_ret
      exact ⟨A, c, by rw [HF.out]; rfl, by rw [HF.out, ← HB.out]; exact HO.out, by rw [← HB.out]; exact HW.out⟩
    | true =>
      have CU := Lib.hid (refCut_any r 32 wr (by have := HZ.out.2 rfl; omega))
      have HL2 := Lib.hid (show L = (ss ++ [mkW (cutL 32 r.data.toList).1]) ++ (if (cutL 32 r.data.toList).2.2 = true then (fls (mkW (cutL 32 r.data.toList).2.1).data.toList).map mkW else []) by
        have := HL.out
        rw [if_pos rfl, fls_cut] at this
        rw [this, list_mkW]
        split <;> simp)
      have HR := Lib.hid (show (cutL 32 r.data.toList).2.2 = true → (cutL 32 r.data.toList).2.1.length < r.size from fun h => by have := cutL_rest h; rw [size_listB] at this; exact this)
      have HE := Lib.hid (show (cutL 32 r.data.toList).2.2 = false → (cutL 32 r.data.toList).2.1 = [] from cutL_gone)
      clear HL
      generalize cutL 32 r.data.toList = x at *
      obtain ⟨x1, x2, x3⟩ := x
      dsimp only at *
      go_wp2_with fail
      refine CU.out.mono ?_
      rintro e w1 ⟨rfl, q, hw1⟩
      have O1 := Lib.hid (show w1.ownsRow B 9 1 u3 ss.length (ss.map Value.string) from own_keep HO.out (by rw [hw1]; exact below_drewN (Below.refl _ _) q))
      have B1 := Lib.hid (show Below B w w1 by rw [hw1]; exact below_drewN HW.out q)
      clear CU hw1 HO HW
      have O2 := Lib.hid (O1.out.alloc (.cells #[.string (mkW x1)] 9))
      have R2 := Lib.hid (Strs.of_own (ss := [mkW x1]) (World.ownsRow_lit (base := w1.heap.size) (e := 9) (size := 1) w1 #[.string (mkW x1)] 1 (Nat.le_refl _) (by decide) rfl) rfl)
      have hBW : B ≤ w1.heap.size := by rw [HB.out]; exact B1.out.size
      have B2 := Lib.hid (B1.out.alloc hBW (.cells #[.string (mkW x1)] 9))
      have hBW2 := Lib.hid (show B ≤ (w1.alloc (.cells #[.string (mkW x1)] 9)).heap.size by simp; omega)
      have hZ2 := Lib.hid (show ss.length ≤ 100001 by have := HZ.out.1; omega)
      clear O1 B1 hBW
      go_wp2_with (at_builtin; go_loud (refine wpList_append_strs (w1.alloc (.cells #[.string (mkW x1)] 9)) rfl (.tmp 15) (.tmp 17) rfl B ss.length _ ss [mkW x1] rfl O2.out _ _ _ rfl R2.out (by have := hZ2.out; simp; omega) hBW2.out ?_; intro A' m' c' w5 o5 b5 g5; have O5 := Lib.hid o5; have B5 := Lib.hid (B2.out.trans b5); clear o5 b5 g5))
      go_roundw
      case rel =>
        refine ⟨mkW x2, ss ++ [mkW x1], x3, rfl, rfl, HL2, Lib.hid (by rw [List.length_append]; exact O5.out), B5, Lib.hid ?_⟩
        have hz := HZ.out
        have hr := HR.out
        have he := HE.out
        simp only [List.length_append, List.length_singleton, mkW_size]
        cases x3 with
        | true => have := hr rfl; have := hz.2 trivial; exact ⟨by omega, fun _ => by omega⟩
        | false => rw [he rfl]; exact ⟨by have := hz.2 trivial; simp; omega, fun h => by cases h⟩
      case measure =>
        have hr := HR.out
        have he := HE.out
        simp only [strLen, mkW_size]
        cases x3 with
        | true => have := hr rfl; simp only [boolN]; omega
        | false => rw [he rfl]; simp only [boolN, List.length_nil]; omega
end Go.Proofs.YtanjcjnkppnhcaaGreatDoor

namespace Go.Proofs.YtanjcjnkppnhcaaGreatDoor
open Go Go.RowKit

def HearTo (x : CP) (w : World) (e : Ending) (w' : World) : Prop := ∃ A c, e = .returned (.tuple #[cpV x A c, .agg #[.slice none 0 0, .int .i64 0]]) ∧ Reads 3 cF w' (.slice A x.2.2.2.2.2.length c) x.2.2.2.2.2 ∧ Below w.heap.size w w'
/-- Both results' blocks, and nothing below is changed. -/
structure HS (w : World) (g : Nat) (v : World) : Prop where
  res : Blk v g 56 zero6
  res2 : Blk v (g + 1) 31 #[.slice none 0 0, .int .i64 0]
  bel : Below w.heap.size w v
  at_ : g = w.heap.size
theorem HS.below {w : World} {g : Nat} {v v' : World} (h : HS w g v) (hb : Below v.heap.size v v') : HS w g v' :=
  ⟨h.res.below hb h.res.lt, h.res2.below hb h.res2.lt, h.bel.trans (hb.mono h.bel.size), h.at_⟩
theorem HS.first (w : World) : HS w w.heap.size ((w.alloc (.cells zero6 56)).alloc (.cells #[.slice none 0 0, .int .i64 0] 31)) := by
  refine ⟨(Blk.new w 56 _).alloc _, ?_, ((Below.refl _ w).alloc (Nat.le_refl _) _).alloc (by simp) _, rfl⟩
  have := Blk.new (w.alloc (.cells zero6 56)) 31 #[.slice none 0 0, .int .i64 0]
  rwa [show (w.alloc (.cells zero6 56)).heap.size = w.heap.size + 1 by simp] at this
theorem HS.set {w : World} {g : Nat} {v : World} (h : HS w g v) {b i : Nat} (hb : g + 1 < b) (u : Value) : HS w g (v.setCell ⟨b, i, none⟩ u) :=
  ⟨h.res.far (p := ⟨b, i, none⟩) (show g ≠ b by omega) u, h.res2.far (p := ⟨b, i, none⟩) (show g + 1 ≠ b by omega) u, h.bel.setCell (p := ⟨b, i, none⟩) (show w.heap.size ≤ b by have := h.at_; omega) u, h.at_⟩
theorem HS.cells {w : World} {g : Nat} {v : World} (h : HS w g v) : v.cell? ⟨g, 0, none⟩ = some (.string ⟨#[]⟩) ∧ v.cell? ⟨g, 1, none⟩ = some (.string ⟨#[]⟩) ∧ v.cell? ⟨g, 2, none⟩ = some (.int .i64 0) ∧ v.cell? ⟨g, 3, none⟩ = some (.string ⟨#[]⟩) ∧ v.cell? ⟨g, 4, none⟩ = some (.bool false) ∧ v.cell? ⟨g, 5, none⟩ = some (.slice none 0 0) ∧ v.cell? ⟨g + 1, 0, none⟩ = some (.slice none 0 0) ∧ v.cell? ⟨g + 1, 1, none⟩ = some (.int .i64 0) :=
  ⟨h.res.cell 0, h.res.cell 1, h.res.cell 2, h.res.cell 3, h.res.cell 4, h.res.cell 5, h.res2.cell 0, h.res2.cell 1⟩
theorem HS.frozen {w : World} {g : Nat} {v : World} (h : HS w g v) : v.frozen? ⟨g, 0, none⟩ = false ∧ v.frozen? ⟨g, 1, none⟩ = false ∧ v.frozen? ⟨g, 2, none⟩ = false ∧ v.frozen? ⟨g, 3, none⟩ = false ∧ v.frozen? ⟨g, 4, none⟩ = false ∧ v.frozen? ⟨g, 5, none⟩ = false ∧ v.frozen? ⟨g + 1, 0, none⟩ = false ∧ v.frozen? ⟨g + 1, 1, none⟩ = false :=
  ⟨h.res.frozen 0, h.res.frozen 1, h.res.frozen 2, h.res.frozen 3, h.res.frozen 4, h.res.frozen 5, h.res2.frozen 0, h.res2.frozen 1⟩
theorem refCmdSize : (Tryz.prog.info? 56).map (·.size) = some 6 := by kernel_rfl
theorem wrongSize31 : (Tryz.prog.info? 31).map (·.size) = some 2 := by kernel_rfl
theorem results_cell_cell {fn : Func} {p q : Tmp} {t1 t2 : TypeId} (h : fn.results = #[.cell p t1, .cell q t2]) (tmps : Array Value) (P : Program) (w : World) :
    (results fn tmps).run P w =
      ((asAddr (tmps.getD p undef)).run P w).andThen fun a w1 => ((loadVar t1 a).run P w1).andThen fun x w2 => ((asAddr (tmps.getD q undef)).run P w2).andThen fun b w3 => ((loadVar t2 b).run P w3).andThen fun y w4 => .ok (.tuple #[x, y]) w4 := by
  simp only [results, h]
  simp [Sem.run_bind, Result.andThen]
theorem results_cc {P : Program} {fn : Func} {p q : Tmp} {t1 t2 : TypeId} (h : fn.results = #[.cell p t1, .cell q t2]) (tmps : Array Value) (w : World) (g1 g2 : Nat) (s1 s2 : TypeId) (c1 c2 : Array Value) (f1 f2 : Nat × Nat) (d1 d2 : TypeDesc)
    (hp : tmps.getD p undef = .pointer (some ⟨g1, 0, none⟩)) (hg1 : w.heap[g1]? = some (.cells c1 s1 f1))
    (hu1 : P.underlying t1 = some d1) (hd1 : (match d1 with | .struct _ | .array _ _ => true | _ => false) = true) (hi1 : (P.info? t1).map (·.size) = some c1.size)
    (hq : tmps.getD q undef = .pointer (some ⟨g2, 0, none⟩)) (hg2 : w.heap[g2]? = some (.cells c2 s2 f2))
    (hu2 : P.underlying t2 = some d2) (hd2 : (match d2 with | .struct _ | .array _ _ => true | _ => false) = true) (hi2 : (P.info? t2).map (·.size) = some c2.size) :
    (results fn tmps).run P w = .ok (.tuple #[.agg c1, .agg c2]) w := by
  rw [results_cell_cell h, hp, hq]
  simp [asAddr, run_loadVar_row w g1 s1 t1 c1 f1 d1 hg1 hu1 hd1 hi1, run_loadVar_row w g2 s2 t2 c2 f2 d2 hg2 hu2 hd2 hi2, Result.andThen]
/-- Both results' cells written anew. -/
def endW (W : World) (g : Nat) (a b c d e f x y : Value) : World := (((((((W.setCell ⟨g, 0, none⟩ a).setCell ⟨g, 1, none⟩ b).setCell ⟨g, 2, none⟩ c).setCell ⟨g, 3, none⟩ d).setCell ⟨g, 4, none⟩ e).setCell ⟨g, 5, none⟩ f).setCell ⟨g + 1, 0, none⟩ x).setCell ⟨g + 1, 1, none⟩ y
theorem HS.done {w : World} {g : Nat} {W : World} (h : HS w g W) (a b c d e f x y : Value) :
    Blk (endW W g a b c d e f x y) g 56 #[a, b, c, d, e, f] ∧ Blk (endW W g a b c d e f x y) (g + 1) 31 #[x, y] ∧ Below w.heap.size w (endW W g a b c d e f x y) := by
  have h6 := row6w h.res rfl a b c d e f
  have hne : g ≠ g + 1 := by omega
  have hg : w.heap.size ≤ g := by rw [h.at_]; exact Nat.le_refl _
  have h7 := far6 h.res2 (show g + 1 ≠ g by omega) a b c d e f
  have h8 := below6 h.bel hg a b c d e f
  refine ⟨(h6.far (p := ⟨g + 1, 0, none⟩) hne x).far (p := ⟨g + 1, 1, none⟩) hne y, ?_, (h8.setCell (p := ⟨g + 1, 0, none⟩) (Nat.le_succ_of_le hg) x).setCell (p := ⟨g + 1, 1, none⟩) (Nat.le_succ_of_le hg) y⟩
  have h9 := (h7.set_ 0 x).set_ 1 y
  simp only [List.setIfInBounds_toArray, List.set_cons_zero, List.set_cons_succ] at h9
  exact h9
theorem HS.keep {w : World} {g : Nat} {W : World} (h : HS w g W) {B n : Nat} {v : Value} {xs : List Value} (ho : W.ownsRow B 81 3 v n xs) (a b c d e f x y : Value) : (endW W g a b c d e f x y).ownsRow B 81 3 v n xs := by
  have h6 := own6 ho h.res a b c d e f
  have hne := own_blk_ne ho h.res2 (by decide)
  exact ownsRow_setCell_other (ownsRow_setCell_other h6 (a := ⟨g + 1, 0, none⟩) hne x) (a := ⟨g + 1, 1, none⟩) hne y
theorem HS.nothing (w : World) {A : Option Addr} {c : Nat} (hA : A = none) (hc : c = 0) : Reads 3 cF w (.slice A ([] : List Fl).length c) ([] : List Fl) := by
  subst hA; subst hc; exact Reads.nil w
/-- One word, two words behind a verb. -/
theorem fields_one (rs x : ByteArray) (hs : rs.size ≤ 100000) (h : wordsK rs true = [x]) (W : World) : Calls Tryz.prog 68 #[.string rs] W fun e w' => ∃ a c, e = .returned (.slice (some ⟨a, 0, none⟩) 1 c) ∧ w'.cell? ⟨a, 0, none⟩ = some (.string x) ∧ 1 ≤ c ∧ W.heap.size ≤ a ∧ Below W.heap.size W w' := by
  have h0 : (fls rs.data.toList).map mkW = [x] := h
  have F := fields_any rs W hs
  rw [h0] at F
  refine F.mono ?_
  rintro e w' ⟨A, c, rfl, o, d⟩
  obtain ⟨a, c', hA, hc⟩ := strs_block o (by simp)
  injection hA with e1 e2 e3
  subst e1
  exact ⟨a, c, rfl, hc 0 x rfl, (own_len o).2.1, (o.lt a rfl).1, d⟩
theorem fields_two (rs x y : ByteArray) (hs : rs.size ≤ 100000) (h : wordsK rs true = [x, y]) (W : World) : Calls Tryz.prog 68 #[.string rs] W fun e w' => ∃ a c, e = .returned (.slice (some ⟨a, 0, none⟩) 2 c) ∧ w'.cell? ⟨a, 0, none⟩ = some (.string x) ∧ w'.cell? ⟨a, 1, none⟩ = some (.string y) ∧ 2 ≤ c ∧ W.heap.size ≤ a ∧ Below W.heap.size W w' := by
  have h0 : (fls rs.data.toList).map mkW = [x, y] := h
  have F := fields_any rs W hs
  rw [h0] at F
  refine F.mono ?_
  rintro e w' ⟨A, c, rfl, o, d⟩
  obtain ⟨a, c', hA, hc⟩ := strs_block o (by simp)
  injection hA with e1 e2 e3
  subst e1
  exact ⟨a, c, rfl, hc 0 x rfl, hc 1 y rfl, (own_len o).2.1, (o.lt a rfl).1, d⟩
theorem word_size {rs : ByteArray} {ss : List ByteArray} (h : wordsK rs true = ss) {y : ByteArray} (hy : y ∈ ss) : y.size ≤ rs.size := by
  rw [← h] at hy
  obtain ⟨z, hz, rfl⟩ := List.mem_map.1 hy
  have := fls_mk_size hz
  rw [size_listB] at this
  exact this
theorem number_ref {y : ByteArray} {n : Nat} (h : num1 y = some n) (hs : y.size ≤ 100000) (W : World) : Calls Tryz.prog 69 #[.string y] W fun e w' => e = .returned (.int .i64 (n : Int)) ∧ w' = W := by
  have := refNumber_any y W (by omega)
  rw [num1_numR h] at this
  exact this
theorem words_given {rs : ByteArray} {db : Bool} {ss : List ByteArray} (h : wordsK rs db = ss) (hne : ss ≠ []) : db = true := by
  unfold wordsK at h
  cases db with
  | true => rfl
  | false => rw [if_neg (by simp)] at h; exact absurd h.symm hne
theorem no_words {rs : ByteArray} {db : Bool} (h : wordsK rs db = []) : db = false := by
  unfold wordsK at h
  cases db with
  | false => rfl
  | true =>
    rw [if_pos rfl, List.map_eq_nil_iff] at h
    exact absurd h (fls_ne _)
theorem check_ref {k : Nat} (hk : k < 20) {nm : ByteArray} {n : Nat} {tx : ByteArray} {f : Bool} {l : List Fl} (hc : checkK k nm (n : Int) tx l = 0) (hs : nm.size ≤ 1000000) (A : Option Addr) (c : Nat) (W : World) (hl : Reads 3 cF W (.slice A l.length c) l) :
    Calls Tryz.prog 23 #[cmdV k nm (n : Int) tx f A l.length c] W fun e w' => e = .returned (.agg #[.slice none 0 0, .int .i64 0]) ∧ Below W.heap.size W w' := by
  refine (refCheck_cmd k hk nm (n : Int) tx f A l c W hs (by omega) hl).mono ?_
  rintro e w' ⟨h | ⟨g, h, -⟩, d⟩
  · exact ⟨h.2, d⟩
  · exact absurd hc h
end Go.Proofs.YtanjcjnkppnhcaaGreatDoor
