/-
  rectoref17.Lines: a text cut at its ends of lines.
-/
import Derived.Test.YtanjcjnkppnhcaaGreatDoorQAQ
import Derived.Test.YtanjcjnkppnhcaaGreatDoorQAC
import Derived.Test.YtanjcjnkppnhcaaGreatDoorQAH

namespace Go.Proofs.YtanjcjnkppnhcaaGreatDoor
open Go Go.RowKit

theorem nls_ten {a : UInt8} (h : a = 10) (l : List UInt8) : nls (a :: l) = [] :: nls l := by
  rw [nls, if_pos h]
theorem nls_more {a : UInt8} (h : ¬ a = 10) {l x : List UInt8} {xs : List (List UInt8)} (hl : nls l = x :: xs) : nls (a :: l) = (a :: x) :: xs := by
  rw [nls, if_neg h, hl]
theorem nls_snoc : ∀ (l : List UInt8) (c : UInt8) (ys : List (List UInt8)) (z : List UInt8), nls l = ys ++ [z] → nls (l ++ [c]) = if c = 10 then ys ++ [z] ++ [[]] else ys ++ [z ++ [c]]
  | [], c, ys, z, h => by
    rw [nls] at h
    cases ys with
    | nil =>
      injection h with h _
      subst h
      simp [nls]
    | cons y ys =>
      injection h with _ h
      simp at h
  | a :: l, c, ys, z, h => by
    rw [List.cons_append]
    by_cases ha : a = 10
    · rw [nls_ten ha] at h ⊢
      cases ys with
      | nil =>
        injection h with _ h
        exact absurd h (nls_ne l)
      | cons y ys =>
        injection h with h1 h2
        subst h1
        rw [nls_snoc l c ys z h2]
        split <;> simp
    · cases hl : nls l with
      | nil => exact absurd hl (nls_ne l)
      | cons x xs =>
        rw [nls_more ha hl] at h
        cases ys with
        | nil =>
          injection h with h1 h2
          have ih := nls_snoc l c [] x (by rw [hl, h2]; rfl)
          by_cases hc : c = 10
          · rw [if_pos hc] at ih ⊢
            rw [nls_more ha (by rw [ih]; rfl), h1]
            rfl
          · rw [if_neg hc] at ih ⊢
            rw [nls_more ha (by rw [ih]; rfl), ← h1]
            rfl
        | cons y ys =>
          injection h with h1 h2
          have ih := nls_snoc l c (x :: ys) z (by rw [hl, h2]; rfl)
          by_cases hc : c = 10
          · rw [if_pos hc] at ih ⊢
            rw [nls_more ha (by rw [ih]; rfl), h1]
            rfl
          · rw [if_neg hc] at ih ⊢
            rw [nls_more ha (by rw [ih]; rfl), h1]
            rfl
attribute [-go_sem] run_string_add_if
def LinesTo (L : List (List UInt8)) (w : World) (e : Ending) (w' : World) : Prop := ∃ (xs : List ByteArray) (u : Value), xs.map (·.data.toList) = L ∧ e = .returned u ∧ w'.ownsRow w.heap.size 9 1 u xs.length (xs.map Value.string) ∧ Below w.heap.size w w'
set_option maxRecDepth 100000 in
set_option maxHeartbeats 4000000 in
theorem refLines_any (s : ByteArray) (w : World) (hs : s.size ≤ 100000) : Calls Tryz.prog 15 #[.string s] w (LinesTo (nls s.data.toList) w) := by
  have l0 : (0 : Int) ≤ (s.size : Int) := Int.natCast_nonneg _
  have l9 : (s.size : Int) ≤ 100000 := by omega
  have O1 := Lib.hid (World.ownsRow_lit (base := w.heap.size) (e := 9) (size := 1) w #[.string ⟨#[]⟩] 1 (Nat.le_refl _) (by decide) rfl)
  have B1 := Lib.hid ((Below.refl w.heap.size w).alloc (Nat.le_refl _) (.cells #[.string ⟨#[]⟩] 9))
  go_enter Tryz.func15, Tryz.ntmps15
  go_wp2_with fail
  generalize w.alloc (.cells #[.string ⟨#[]⟩] 9) = W at *
  obtain ⟨B, hB⟩ : ∃ B, B = w.heap.size := ⟨_, rfl⟩
  have HB := Lib.hid hB
  rw [← hB] at O1 B1 ⊢
  clear hB
  go_loopw [3, 4] (fun s3 s4 wr => ∃ (i : Nat) (ys : List ByteArray) (z : ByteArray), i ≤ s.size ∧ s4 = .int .i64 i ∧ Hid (nls (s.data.toList.take i) = ys.map (·.data.toList) ++ [z.data.toList]) ∧ Hid (ys.length ≤ i) ∧ Hid (z.size ≤ i) ∧ Hid (wr.ownsRow B 9 1 s3 (ys ++ [z]).length ((ys ++ [z]).map Value.string)) ∧ Hid (Below B w wr)) (fun _ s4 _ => s.size - (intOf s4).toNat)
  case atStart => exact ⟨0, [], ⟨#[]⟩, Nat.zero_le _, rfl, Lib.hid rfl, Lib.hid (Nat.le_refl _), Lib.hid (Nat.le_refl _), O1, B1⟩
  case round =>
    clear O1 B1
    obtain ⟨i, ys, z, hi, rfl, HN, HY, HZ, HO, HW⟩ := hrel
    have i0 : (0 : Int) ≤ (i : Int) := Int.natCast_nonneg _
    obtain ⟨L, hL⟩ : ∃ L, L = ys.length := ⟨_, rfl⟩
    have HLEN : (ys ++ [z]).length = L + 1 := by rw [hL]; simp
    rw [HLEN] at HO
    obtain ⟨g, cap, rfl, hBg⟩ : ∃ g cap, u3 = .slice (some ⟨g, 0, none⟩) (L + 1) cap ∧ B ≤ g := by
      rcases HO.out.2 with ⟨_, h⟩ | ⟨g, cap, cur, h, h2, _⟩
      · omega
      · exact ⟨g, cap, h, h2⟩
    have L0 : (0 : Int) ≤ (L : Int) := Int.natCast_nonneg _
    have L9 : (L : Int) ≤ 100000 := by have := HY.out; omega
    have HLE := Lib.hid hL
    have HBG := Lib.hid hBg
    have HLN := Lib.hid HLEN
    clear hL hBg HLEN
    by_cases hlt : i < s.size
    · have hli : (i : Int) < (s.size : Int) := by omega
      have hget : s.data.toList[i]? = some s[i] := List.getElem?_eq_getElem (by rw [size_listB]; exact hlt)
      have hN2 := nls_snoc _ s[i] _ _ HN.out
      rw [← take_snocB hget] at hN2
      by_cases hc : s[i] = 10
      · have b1 : (s[i].toNat : Int) = 10 := by rw [hc]; rfl
        have b2 : ((s[i].toNat : Int) == 10) = true := by simpa using b1
        rw [if_pos hc] at hN2
        have HN2 := Lib.hid (show nls (s.data.toList.take (i + 1)) = (ys ++ [z]).map (·.data.toList) ++ [(⟨#[]⟩ : ByteArray).data.toList] by rw [hN2]; simp)
        have O4 := Lib.hid (HO.out.alloc (.cells #[.string ⟨#[]⟩] 9))
        have R4 := Lib.hid (Strs.of_own (ss := [⟨#[]⟩]) (World.ownsRow_lit (base := wr.heap.size) (e := 9) (size := 1) wr #[.string ⟨#[]⟩] 1 (Nat.le_refl _) (by decide) rfl) rfl)
        have hBW : B ≤ wr.heap.size := by rw [HB.out]; exact HW.out.size
        have B4 := Lib.hid (HW.out.alloc hBW (.cells #[.string ⟨#[]⟩] 9))
        have hBW4 := Lib.hid (show B ≤ (wr.alloc (.cells #[.string ⟨#[]⟩] 9)).heap.size by simp; omega)
        clear hget hc hN2
        go_wp2_with (at_builtin; go_loud (refine wpList_append_strs (wr.alloc (.cells #[.string ⟨#[]⟩] 9)) rfl (.tmp 16) (.tmp 17) rfl B (L + 1) _ (ys ++ [z]) [⟨#[]⟩] rfl O4.out _ _ _ rfl R4.out (by have := HY.out; have := HLE.out; omega) hBW4.out ?_; intro A' m' c' w5 o5 b5 g5; have O5 := Lib.hid o5; have B5 := Lib.hid (B4.out.trans b5); clear o5 b5 g5))
        go_roundw
        case rel => exact ⟨i + 1, ys ++ [z], ⟨#[]⟩, by omega, by go_num, HN2, Lib.hid (by rw [HLN.out]; have := HY.out; have := HLE.out; omega), Lib.hid (Nat.zero_le _), Lib.hid (by have := O5.out; rw [List.length_append, HLN.out]; exact this), B5⟩
        case measure => simp [intOf]; omega
      · have b1 : ¬ (s[i].toNat : Int) = 10 := fun e => hc (UInt8.toNat_inj.1 (by show s[i].toNat = 10; omega))
        have b2 : ((s[i].toNat : Int) == 10) = false := by simpa using b1
        rw [if_neg hc] at hN2
        have hx1 : (s.extract i (i + 1)).data.toList = [s[i]] := by
          rw [extract_mkW, list_mkW, take_snocB hget, List.drop_append_of_le_length (by rw [List.length_take, size_listB]; omega), List.drop_eq_nil_of_le (by rw [List.length_take]; omega)]
          rfl
        have hx2 : (s.extract i (i + 1)).size = 1 := by rw [← size_listB, hx1]; rfl
        obtain ⟨q, e1, n1, p1⟩ := sum_namedT z (s.extract i (i + 1)) (by have := HZ.out; omega)
        have HN2 := Lib.hid (show nls (s.data.toList.take (i + 1)) = ys.map (·.data.toList) ++ [q.data.toList] by rw [hN2, e1, data_app, hx1])
        have HQ := Lib.hid (show q.size ≤ i + 1 by have := HZ.out; omega)
        have c0 : wr.cell? ⟨g, L, none⟩ = some (.string z) := by
          rw [HO.out.cellAt L (by omega), HLE.out]
          simp
        have f0 : wr.frozen? ⟨g, L, none⟩ = false := HO.out.frozenAt L
        have O5 : Hid ((wr.setCell ⟨g, L, none⟩ (.string q)).ownsRow B 9 1 (.slice (some ⟨g, 0, none⟩) (L + 1) cap) (L + 1) ((ys ++ [q]).map Value.string)) := Lib.hid (by
          have := (HO.out.stored L (.string q)).1
          rw [show ((ys ++ [z]).map Value.string).set L (.string q) = (ys ++ [q]).map Value.string by rw [HLE.out]; simp] at this
          exact this)
        have B5 := Lib.hid (HW.out.setCell (p := ⟨g, L, none⟩) HBG.out (.string q))
        have hw1 : IntKind.i64.wrap ((L : Int) + 1 - 1) = (L : Int) := by rw [IntKind.wrap_i64] <;> omega
        have hw2 : IntKind.i64.wrap (((L + 1 : Nat) : Int) - 1) = (L : Int) := by rw [IntKind.wrap_i64] <;> omega
        have hw3 : IntKind.i64.wrap ((i : Int) + 1) = (i : Int) + 1 := by rw [IntKind.wrap_i64] <;> omega
        clear hget hc hN2 e1 n1 hx1 hx2
        go_wp2_with fail
        go_region
        go_wp2
        go_roundw
        case rel => exact ⟨i + 1, ys, q, by omega, by go_num, HN2, Lib.hid (by have := HY.out; omega), HQ, Lib.hid (by rw [List.length_append, show ys.length = L from HLE.out.symm]; exact World.ownsRow.drew O5.out), Lib.hid B5.out.drew⟩
        case measure => simp [intOf]; omega
    · obtain rfl : i = s.size := by omega
      have HF := Lib.hid (show (ys ++ [z]).map (·.data.toList) = nls s.data.toList by have := HN.out; rw [← size_listB, List.take_length] at this; rw [this]; simp)
      go_wp2
      go_ret
      exact ⟨ys ++ [z], _, HF.out, rfl, by rw [HLN.out, ← HB.out]; exact HO.out, by rw [← HB.out]; exact HW.out⟩
end Go.Proofs.YtanjcjnkppnhcaaGreatDoor
