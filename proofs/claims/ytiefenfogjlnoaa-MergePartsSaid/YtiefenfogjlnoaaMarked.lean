/-
  The contract of Marked, and of few.
-/
import Derived.Test.YtiefenfogjlnoaaTextAny
namespace Go.Proofs.Ytiefenfogjlnoaa
open Go.RowKit

abbrev theirs8 : ByteArray := ⟨#[62, 62, 62, 62, 62, 62, 62, 32]⟩
abbrev ours8 : ByteArray := ⟨#[60, 60, 60, 60, 60, 60, 60, 32]⟩

/-- May a clash still stand in these lines? -/
def mkd : Bool → List (List UInt8) → Bool
  | _, [] => false
  | b, x :: r => (b && Lib.hasPrefix x theirs8.data.toList) || mkd (b || Lib.hasPrefix x ours8.data.toList) r

theorem mkd_at {b : Bool} {l : List (List UInt8)} {k : Nat} {x : List UInt8} (h : l[k]? = some x) : mkd b (l.drop k) = ((b && Lib.hasPrefix x theirs8.data.toList) || mkd (b || Lib.hasPrefix x ours8.data.toList) (l.drop (k + 1))) := by
  obtain ⟨hk, rfl⟩ := List.getElem?_eq_some_iff.1 h
  rw [List.drop_eq_getElem_cons hk, mkd]

theorem len_flat {α : Type} : ∀ {L : List (List α)}, (∀ x ∈ L, x ≠ []) → L.length ≤ L.flatten.length
  | [], _ => Nat.zero_le _
  | x :: L, h => by
    have h1 := len_flat (L := L) fun y hy => h y (List.mem_cons_of_mem _ hy)
    have h2 : x.length ≠ 0 := fun e => h x List.mem_cons_self (List.eq_nil_of_length_eq_zero e)
    simp only [List.length_cons, List.flatten_cons, List.length_append]
    omega
theorem cutL_le (l : List UInt8) : (cutL l).length ≤ l.length := by
  have := len_flat (L := cutL l) fun x hx => by
    obtain ⟨i, hi⟩ := List.getElem?_of_mem hx
    exact (cutL_at l i x hi).1
  rwa [cutL_flat] at this

set_option maxRecDepth 100000 in
set_option maxHeartbeats 4000000 in
theorem marked_any (w : World) (s : ByteArray) (hs : s.size ≤ 1000000) :
    Calls Try.prog 14 #[.string s] w fun e w' => e = .returned (.bool (mkd false (cutL s.data.toList))) ∧ Below w.heap.size w w' := by
  have S1 := Lib.hid (split_any w s hs)
  have Q1 := Lib.hid (show (cutL s.data.toList).length = (lns s).length by simp)
  go_enter Try.func14, Try.ntmps14
  go_wp2_with fail
  refine S1.out.mono ?_
  rintro e w1 ⟨v1, rfl, o1, b1⟩
  have t1 := Strs.of_own o1 Q1.out
  obtain ⟨A, n, c, rfl⟩ := t1.form
  have hn : n = (cutL s.data.toList).length := by obtain ⟨A', c', hv, _⟩ := t1; injection hv with _ e2 _; rw [e2]; simp
  have hn6 : n ≤ 1000000 := by rw [hn]; have := cutL_le s.data.toList; rw [size_data] at this; omega
  have HT := Lib.hid t1
  have HN := Lib.hid hn
  have HB := Lib.hid b1
  clear S1 o1 t1 hn b1
  go_wp2_with fail
  go_loopw [3, 9] (fun s3 s9 wr => ∃ (k : Nat) (b : Bool), k ≤ n ∧ s9 = .int .i64 k ∧ s3 = .bool b ∧ mkd b ((cutL s.data.toList).drop k) = mkd false (cutL s.data.toList) ∧ Below w1.heap.size w1 wr) (fun _ s9 _ => n - (intOf s9).toNat)
  case atStart => exact ⟨0, false, Nat.zero_le _, rfl, rfl, rfl, Below.refl _ _⟩
  case round =>
    obtain ⟨k, b, hk, rfl, rfl, hm, hb⟩ := hrel
    have k0 : (0 : Int) ≤ (k : Int) := Int.natCast_nonneg _
    by_cases hlt : k < n
    · have k1 : (k : Int) < (n : Int) := by omega
      obtain ⟨ad, x, rfl, hx, c0⟩ := (HT.out.below hb).cell hlt
      have hx2 : (cutL s.data.toList)[k]? = some x.data.toList := by
        rw [List.getElem?_map] at hx
        cases hc : (cutL s.data.toList)[k]? with
        | none => rw [hc] at hx; cases hx
        | some y => rw [hc] at hx; simp only [Option.map_some, Option.some.injEq] at hx; rw [← hx]; simp [mk]
      have HM := Lib.hid (hm.symm.trans (mkd_at hx2))
      have P1 := Lib.hid fun w2 => Try.strings_HasPrefix x theirs8 w2
      have P2 := Lib.hid fun w2 => Try.strings_HasPrefix x ours8 w2
      have HBl := Lib.hid hb
      clear hx hx2 hm hb
      generalize hp1 : Lib.hasPrefix x.data.toList theirs8.data.toList = a1 at *
      generalize hp2 : Lib.hasPrefix x.data.toList ours8.data.toList = a2 at *
      clear hp1 hp2
      cases b with
      | false =>
        go_wp2_with (go_at_call 27; (with_reducible refine (P2.out _).mono ?_); rintro e w2 ⟨rfl, rfl⟩)
        go_roundw
        case rel => exact ⟨k + 1, a2, by omega, by go_num, rfl, by rw [HM.out]; simp, HBl.out⟩
        case measure => simp [intOf]; omega
      | true =>
        cases a1 with
        | true =>
          go_wp2_with (go_at_call 27; (with_reducible refine (P1.out _).mono ?_); rintro e w2 ⟨rfl, rfl⟩)
          go_ret
          exact ⟨by rw [HM.out]; simp, below_trans HB.out HBl.out⟩
        | false =>
          go_wp2_with (go_at_call 27; (with_reducible refine (P1.out _).mono ?_); rintro e w2 ⟨rfl, rfl⟩)
          go_roundw
          case rel => exact ⟨k + 1, true, by omega, by go_num, rfl, by rw [HM.out]; simp, HBl.out⟩
          case measure => simp [intOf]; omega
    · obtain rfl : k = n := by omega
      have HM := Lib.hid hm
      clear hm
      go_wp2_with fail
      go_ret
      exact ⟨by rw [← HM.out, HN.out, List.drop_length]; rfl, below_trans HB.out hb⟩

/-- Are lines few enough? -/
def fewL (xs : List ByteArray) : Bool := decide (xs.length ≤ 300) && xs.all fun x => decide (x.size ≤ 200)

set_option maxRecDepth 100000 in
set_option maxHeartbeats 4000000 in
theorem few_any (w : World) (A : Option Addr) (n c : Nat) (xs : List ByteArray) (h : Strs w (.slice A n c) xs) (hn : n = xs.length) :
    Calls Try.prog 10 #[.slice A n c] w fun e w' => e = .returned (.bool (fewL xs)) ∧ Below w.heap.size w w' := by
  by_cases h300 : n ≤ 300
  · have hi : (n : Int) ≤ 300 := by omega
    have HT := Lib.hid h
    have HF := Lib.hid (show fewL xs = xs.all fun x => decide (x.size ≤ 200) by unfold fewL; rw [decide_eq_true (by omega)]; rfl)
    clear h
    go_enter Try.func10, Try.ntmps10
    go_wp2_with fail
    go_loopw [3] (fun s3 wr => ∃ k : Nat, k ≤ n ∧ s3 = .int .i64 k ∧ ((xs.take k).all fun x => decide (x.size ≤ 200)) = true ∧ Below w.heap.size w wr) (fun s3 _ => n - (intOf s3).toNat)
    case atStart => exact ⟨0, Nat.zero_le _, rfl, rfl, Below.refl _ _⟩
    case round =>
      obtain ⟨k, hk, rfl, hm, hb⟩ := hrel
      have k0 : (0 : Int) ≤ (k : Int) := Int.natCast_nonneg _
      by_cases hlt : k < n
      · have k1 : (k : Int) < (n : Int) := by omega
        obtain ⟨ad, x, rfl, hx, c0⟩ := (HT.out.below hb).cell hlt
        have HX := Lib.hid hx
        have HM := Lib.hid hm
        clear hx hm
        by_cases h2 : x.size ≤ 200
        · have h2i : (x.size : Int) ≤ 200 := by omega
          go_wp2_with fail
          go_roundw
          case rel => exact ⟨k + 1, by omega, by go_num, by rw [List.take_add_one, HX.out, List.all_append, HM.out]; simp [h2], hb⟩
          case measure => simp [intOf]; omega
        · have h2i : ¬ (x.size : Int) ≤ 200 := by omega
          go_wp2_with fail
          go_ret
          refine ⟨?_, hb⟩
          rw [HF.out]
          have : (xs.all fun x => decide (x.size ≤ 200)) = false := by
            rw [List.all_eq_false]
            exact ⟨x, List.mem_of_getElem? HX.out, by simp; omega⟩
          rw [this]
          rfl
      · obtain rfl : k = n := by omega
        rw [hn, List.take_length] at hm
        have HM := Lib.hid hm
        clear hm
        go_wp2_with fail
        go_ret
        exact ⟨by rw [HF.out, HM.out]; rfl, hb⟩
  · have hi : ¬ (n : Int) ≤ 300 := by omega
    have HF := Lib.hid (show fewL xs = false by unfold fewL; rw [decide_eq_false (by omega)]; rfl)
    clear h
    rw [HF.out]
    go_enter Try.func10, Try.ntmps10
    go_wp2_with fail
    go_ret
    exact ⟨rfl, Below.refl _ _⟩

end Go.Proofs.Ytiefenfogjlnoaa
