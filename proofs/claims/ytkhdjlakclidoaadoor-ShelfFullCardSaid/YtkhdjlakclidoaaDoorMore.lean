/-
  path.Clash, path.Compare, path.Parent, path.Parts, and the document's Clash, Compare.
-/
import Derived.Test.YtkhdjlakclidoaaDoorUnd
import Derived.WalkLawsBesides
namespace Go.Proofs.YtkhdjlakclidoaaDoor
open Go Go.RowKit Go.Shelf

theorem cmp_self : ∀ l : List UInt8, Lib.compareBytes l l = 0
  | [] => rfl
  | a :: l => by
    have h : ¬ a < a := UInt8.lt_irrefl a
    simp [Lib.compareBytes, cmp_self l]
theorem cmp_zero : ∀ a b : List UInt8, Lib.compareBytes a b = 0 → a = b
  | [], [], _ => rfl
  | [], _ :: _, h => by simp [Lib.compareBytes] at h
  | _ :: _, [], h => by simp [Lib.compareBytes] at h
  | x :: a, y :: b, h => by
    unfold Lib.compareBytes at h
    by_cases h1 : x < y
    · rw [if_pos h1] at h; omega
    · by_cases h2 : y < x
      · rw [if_neg h1, if_pos h2] at h; omega
      · rw [if_neg h1, if_neg h2] at h
        have hxy : x = y := UInt8.le_antisymm (UInt8.not_lt.1 h2) (UInt8.not_lt.1 h1)
        rw [hxy, cmp_zero a b h]
theorem cmp_vals : ∀ a b : List UInt8, Lib.compareBytes a b = -1 ∨ Lib.compareBytes a b = 0 ∨ Lib.compareBytes a b = 1
  | [], [] => .inr (.inl rfl)
  | [], _ :: _ => .inl rfl
  | _ :: _, [] => .inr (.inr rfl)
  | x :: a, y :: b => by
    unfold Lib.compareBytes
    split
    · exact .inl rfl
    · split
      · exact .inr (.inr rfl)
      · exact cmp_vals a b
theorem less_cmp : ∀ a b : List UInt8, Op.bytesLess a b = decide (Lib.compareBytes a b < 0)
  | [], [] => rfl
  | _ :: _, [] => rfl
  | [], _ :: _ => rfl
  | x :: a, y :: b => by
    unfold Op.bytesLess Lib.compareBytes
    by_cases h1 : x < y
    · simp [h1]
    · by_cases h2 : y < x
      · have : (x == y) = false := by rw [beq_eq_false_iff_ne]; rintro rfl; exact h1 h2
        simp [h1, h2, this]
      · have : x = y := UInt8.le_antisymm (UInt8.not_lt.1 h2) (UInt8.not_lt.1 h1)
        subst this
        simp [h1, less_cmp a b]
theorem ret_i {a b : Int} (h : a = b) : Ending.returned (.int .i64 a) = .returned (.int .i64 b) := by rw [h]
theorem ret_s {a b : ByteArray} (h : a = b) : Ending.returned (.string a) = .returned (.string b) := by rw [h]
def cls (a b : List UInt8) : Bool := !(a == []) && (!(b == []) && (und a b || und b a))
theorem cls_of {a b : List UInt8} (ha : a ≠ []) (hb : b ≠ []) : cls a b = (und a b || und b a) := by
  have h1 : (a == []) = false := by rw [beq_eq_false_iff_ne]; exact ha
  have h2 : (b == []) = false := by rw [beq_eq_false_iff_ne]; exact hb
  unfold cls
  rw [h1, h2]; rfl

set_option maxHeartbeats 1000000 in
theorem clash_any (a b : ByteArray) (w : World) (ha : a.size ≤ 1000000) (hb : b.size ≤ 1000000) : Calls Tryd.prog 16 #[.string a, .string b] w fun e w' => e = .returned (.bool (cls a.data.toList b.data.toList)) ∧ w = w' := by
  by_cases ha0 : a.size = 0
  · obtain rfl := nil_of ha0
    go_enter Tryd.func16, Tryd.ntmps16
    go_wp2
    go_ret
    exact ⟨rfl, rfl⟩
  · obtain ⟨q1, q2⟩ := not_nil ha0
    have n1 : a.data.toList ≠ [] := by rw [← ByteArray.toList_eq]; exact q1
    by_cases hb0 : b.size = 0
    · obtain rfl := nil_of hb0
      have HE : Hid (cls a.data.toList [] = false) := by show cls _ [] = false; unfold cls; simp
      go_enter Tryd.func16, Tryd.ntmps16
      go_wp2
      go_ret
      exact ⟨ret_b HE.out.symm, rfl⟩
    · obtain ⟨q3, q4⟩ := not_nil hb0
      have n2 : b.data.toList ≠ [] := by rw [← ByteArray.toList_eq]; exact q3
      have HE : Hid (cls a.data.toList b.data.toList = (und a.data.toList b.data.toList || und b.data.toList a.data.toList)) := Lib.hid (cls_of n1 n2)
      have U1 := Lib.hid fun W => under_any a b W ha hb
      have U2 := Lib.hid fun W => under_any b a W hb ha
      generalize und a.data.toList b.data.toList = x at *
      generalize und b.data.toList a.data.toList = y at *
      cases x with
      | true =>
        go_enter Tryd.func16, Tryd.ntmps16
        go_wp2_with fail
        refine (U1.out _).mono ?_
        rintro e w' ⟨rfl, rfl⟩
        go_wp2_with fail
        go_ret
        exact ⟨ret_b HE.out.symm, rfl⟩
      | false =>
        go_enter Tryd.func16, Tryd.ntmps16
        go_wp2_with fail
        refine (U1.out _).mono ?_
        rintro e w' ⟨rfl, rfl⟩
        go_wp2_with fail
        refine (U2.out _).mono ?_
        rintro e w' ⟨rfl, rfl⟩
        go_wp2_with fail
        go_ret
        exact ⟨ret_b HE.out.symm, rfl⟩

set_option maxHeartbeats 1000000 in
theorem refClash_any (a b : ByteArray) (w : World) (ha : a.size ≤ 1000000) (hb : b.size ≤ 1000000) : Calls Tryd.prog 19 #[.string a, .string b] w fun e w' => e = .returned (.bool (cls a.data.toList b.data.toList)) ∧ w = w' := by
  by_cases ha0 : a.size = 0
  · obtain rfl := nil_of ha0
    go_enter Tryd.func19, Tryd.ntmps19
    go_wp2
    go_ret
    exact ⟨rfl, rfl⟩
  · obtain ⟨q1, q2⟩ := not_nil ha0
    have n1 : a.data.toList ≠ [] := by rw [← ByteArray.toList_eq]; exact q1
    by_cases hb0 : b.size = 0
    · obtain rfl := nil_of hb0
      have HE : Hid (cls a.data.toList [] = false) := by show cls _ [] = false; unfold cls; simp
      go_enter Tryd.func19, Tryd.ntmps19
      go_wp2
      go_ret
      exact ⟨ret_b HE.out.symm, rfl⟩
    · obtain ⟨q3, q4⟩ := not_nil hb0
      have n2 : b.data.toList ≠ [] := by rw [← ByteArray.toList_eq]; exact q3
      have HE : Hid (cls a.data.toList b.data.toList = (und a.data.toList b.data.toList || und b.data.toList a.data.toList)) := Lib.hid (cls_of n1 n2)
      have U1 := Lib.hid fun W => refUnder_any a b W ha hb
      have U2 := Lib.hid fun W => refUnder_any b a W hb ha
      generalize und a.data.toList b.data.toList = x at *
      generalize und b.data.toList a.data.toList = y at *
      cases x with
      | true =>
        go_enter Tryd.func19, Tryd.ntmps19
        go_wp2_with fail
        refine (U1.out _).mono ?_
        rintro e w' ⟨rfl, rfl⟩
        go_wp2_with fail
        go_ret
        exact ⟨ret_b HE.out.symm, rfl⟩
      | false =>
        go_enter Tryd.func19, Tryd.ntmps19
        go_wp2_with fail
        refine (U1.out _).mono ?_
        rintro e w' ⟨rfl, rfl⟩
        go_wp2_with fail
        refine (U2.out _).mono ?_
        rintro e w' ⟨rfl, rfl⟩
        go_wp2_with fail
        go_ret
        exact ⟨ret_b HE.out.symm, rfl⟩

theorem compare_any (a b : ByteArray) (w : World) : Calls Tryd.prog 20 #[.string a, .string b] w fun e w' => e = .returned (.int .i64 (Lib.compareBytes a.data.toList b.data.toList)) ∧ w = w' := by
  go_enter Tryd.func20, Tryd.ntmps20
  go_wp2_with (go_at_call 31; refine (Tryd.strings_Compare _ _ _).mono ?_; rintro e w' ⟨rfl, rfl⟩)
  go_ret
  exact ⟨rfl, rfl⟩
theorem refCompare_any (a b : ByteArray) (w : World) : Calls Tryd.prog 21 #[.string a, .string b] w fun e w' => e = .returned (.int .i64 (Lib.compareBytes a.data.toList b.data.toList)) ∧ w = w' := by
  have hl := less_cmp a.data.toList b.data.toList
  rw [← ByteArray.toList_eq, ← ByteArray.toList_eq] at hl
  rcases cmp_vals a.data.toList b.data.toList with h | h | h
  · have hv := h
    rw [← ByteArray.toList_eq, ← ByteArray.toList_eq] at hv
    rw [hv] at hl
    have hl' : Op.bytesLess a.toList b.toList = true := hl
    have H := Lib.hid h
    clear h hv hl
    go_enter Tryd.func21, Tryd.ntmps21
    go_wp2
    go_ret
    exact ⟨ret_i H.out.symm, rfl⟩
  · obtain rfl := bytes_eq (cmp_zero _ _ h)
    have hl' : Op.bytesLess a.toList a.toList = false := by rw [hl, cmp_self]; rfl
    have H := Lib.hid h
    clear h hl
    go_enter Tryd.func21, Tryd.ntmps21
    go_wp2
    go_ret
    exact ⟨ret_i H.out.symm, rfl⟩
  · have hv := h
    rw [← ByteArray.toList_eq, ← ByteArray.toList_eq] at hv
    rw [hv] at hl
    have hl' : Op.bytesLess a.toList b.toList = false := hl
    have q1 : ¬ a.toList = b.toList := fun e => by
      rw [ByteArray.toList_eq, ByteArray.toList_eq] at e
      rw [e, cmp_self] at h
      omega
    have q2 : (a.toList == b.toList) = false := by rw [beq_eq_false_iff_ne]; exact q1
    have H := Lib.hid h
    clear h hv hl
    go_enter Tryd.func21, Tryd.ntmps21
    go_wp2
    go_ret
    exact ⟨ret_i H.out.symm, rfl⟩

/-- How much of p its folder is. -/
def parN (p : ByteArray) : Nat := (max (Lib.lastIndexByte p 47) 0).toNat
theorem parent_any (p : ByteArray) (w : World) (hp : p.size ≤ 1000000) : Calls Tryd.prog 14 #[.string p] w fun e w' => e = .returned (.string (p.extract 0 (parN p))) ∧ w = w' := by
  have hspec := Lib.lastIdx_spec p 47 p.size
  obtain ⟨r, hr⟩ : ∃ r, Lib.lastIndexByte p 47 = r := ⟨_, rfl⟩
  have hb : -1 ≤ r ∧ r < p.size ∨ r = -1 := by
    rw [← hr]
    unfold Lib.lastIndexByte
    rcases hspec with ⟨h, _⟩ | ⟨i, hi, h, _⟩
    · exact .inr h
    · exact .inl ⟨by omega, by omega⟩
  have HP : Hid (parN p = (max r 0).toNat) := by show parN p = _; unfold parN; rw [hr]
  have I := Lib.hid fun W => Tryd.strings_LastIndexByte p 47 (by omega) W
  rw [hr] at I
  clear hr hspec
  have h0 : 0 ≤ max r 0 := by omega
  have h1 : max r 0 ≤ (p.size : Int) := by omega
  go_enter Tryd.func14, Tryd.ntmps14
  go_wp2_with (go_at_call 30; refine (I.out _).mono ?_; rintro e w' ⟨rfl, rfl⟩)
  go_ret
  exact ⟨ret_s (by rw [HP.out]), rfl⟩
def ptsB (p : ByteArray) : List ByteArray := Lib.splitB ⟨#[47]⟩ 0 (Lib.countB p ⟨#[47]⟩) p
theorem parts_any (p : ByteArray) (m : Int) (w : World) (hp : p.size ≤ 1000000) (hne : ¬ p.size = 0) (hm : w.cell? ⟨0, 0, none⟩ = some (.int .i64 m)) : Calls Tryd.prog 12 #[.string p] w fun e w' =>
    e = .returned (.slice (some ⟨w.heap.size, 0, none⟩) (Lib.countB p ⟨#[47]⟩ + 1) (Lib.countB p ⟨#[47]⟩ + 1)) ∧ w.alloc (.cells ((ptsB p).map Value.string).toArray 9) = w' := by
  obtain ⟨q1, q2⟩ := not_nil hne
  have S := Lib.hid (Tryd.strings_Split p ⟨#[47]⟩ m w (by omega) hm (by decide))
  clear hm
  go_enter Tryd.func12, Tryd.ntmps12
  go_wp2_with (go_at_call 29; refine S.out.mono ?_; rintro e w' ⟨rfl, rfl⟩)
  go_ret
  exact ⟨rfl, rfl⟩
theorem parts_none (w : World) : Calls Tryd.prog 12 #[.string ⟨#[]⟩] w fun e w' => e = .returned (.slice none 0 0) ∧ w = w' := by
  go_enter Tryd.func12, Tryd.ntmps12
  go_wp2
  go_ret
  exact ⟨rfl, rfl⟩
end Go.Proofs.YtkhdjlakclidoaaDoor
