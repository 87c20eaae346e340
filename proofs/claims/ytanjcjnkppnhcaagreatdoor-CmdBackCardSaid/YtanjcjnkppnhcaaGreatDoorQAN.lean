/-
  The document's decimal numeral: Decimal n is strconv's numeral, for every int.
-/
import Derived.Test.YtanjcjnkppnhcaaGreatDoorQAA
import Derived.ShutString
import Derived.Lib.ItoaMem
import Derived.Lib.ItoaLen

namespace Go.Proofs.YtanjcjnkppnhcaaGreatDoor
open Go Go.RowKit

/-- The digits of a number but the last. -/
def preD (m : Nat) : List UInt8 := if m < 10 then [] else Lib.decDigits (m / 10)
theorem preD_digits (m : Nat) : Lib.decDigits m = preD m ++ [UInt8.ofNat (48 + m % 10)] := by
  unfold preD
  rw [Lib.decDigits]
  by_cases h : m < 10
  · rw [dif_pos h, if_pos h, Nat.mod_eq_of_lt h]; rfl
  · rw [dif_neg h, if_neg h]
theorem preD_step {m : Nat} (h : ¬ m < 10) : preD m = preD (m / 10) ++ [UInt8.ofNat (48 + m / 10 % 10)] := by
  rw [← preD_digits]
  unfold preD
  rw [if_neg h]
/-- A number's numeral as a string. -/
def numB (n : Int) : ByteArray := ⟨(Lib.itoa n).toArray⟩
theorem numB_nat (m : Nat) : numB (m : Int) = ⟨(Lib.decDigits m).toArray⟩ := by unfold numB; rw [Lib.itoa_nonneg]
theorem numB_size {n : Int} (h0 : -9223372036854775808 ≤ n) (h1 : n ≤ 9223372036854775807) : (numB n).size ≤ 21 := by
  have := Lib.itoa_length_le n h0 h1
  unfold numB
  simpa [ByteArray.size] using this
/-- A number's last digit, alone. -/
def digO (q : Nat) : ByteArray := ⟨#[UInt8.ofNat (48 + q % 10)]⟩
theorem sum_num (a b : ByteArray) (h : a.size + b.size ≤ 9223372036854775807) : ∃ s, s = a ++ b ∧ s.size = a.size + b.size ∧ ∀ w, (Op.stringOp .add a b).run Tryz.prog w = .ok (.string s) w := ⟨_, rfl, ByteArray.size_append, fun w => run_string_add_sum w a b h⟩
theorem one_digitD (W : World) (g : Nat) (x : Int) (h1 : 48 ≤ x) (h2 : x ≤ 57) (hc : W.cell? ⟨g, 0, none⟩ = some (.int .u8 x)) : (convert 94 9 (.slice (some ⟨g, 0, none⟩) 1 1)).run Tryz.prog W = .ok (.string ⟨#[UInt8.ofNat x.toNat]⟩) W := by
  have := run_convert_bytes_back (P := Tryz.prog) W 94 9 5 ⟨g, 0, none⟩ 1 [UInt8.ofNat x.toNat] Tryz.underlying94 Tryz.underlying5 Tryz.underlying9 (fun j hj => by
    obtain rfl : j = 0 := by simpa using hj
    simp [Addr.add, hc]
    omega)
  exact this

attribute [-go_sem] run_string_add_if
set_option maxRecDepth 100000 in
set_option maxHeartbeats 4000000 in
theorem refDecimal_nat (m : Nat) (hm : m ≤ 9223372036854775807) (w : World) :
    Calls Tryz.prog 48 #[.int .i64 m] w fun e w' => e = .returned (.string (numB (m : Int))) ∧ Below w.heap.size w w' := by
  have m0 : (0 : Int) ≤ (m : Int) := Int.natCast_nonneg _
  have m1 : (m : Int) ≤ 9223372036854775807 := by omega
  have cv : ∀ (W : World) (q : Nat), (convert 94 9 (.slice (some ⟨W.heap.size, 0, none⟩) 1 1)).run Tryz.prog (W.alloc (.cells #[.int .u8 (48 + (q : Int) % 10)] 5)) = .ok (.string (digO q)) (W.alloc (.cells #[.int .u8 (48 + (q : Int) % 10)] 5)) := fun W q => by
    have := one_digitD (W.alloc (.cells #[.int .u8 (48 + (q : Int) % 10)] 5)) W.heap.size (48 + (q : Int) % 10) (by omega) (by omega) (by simp)
    rw [show (48 + (q : Int) % 10).toNat = 48 + q % 10 by omega] at this
    exact this
  have cv0 := cv w m
  have E0 := Lib.hid (preD_digits m)
  go_enter Tryz.func48, Tryz.ntmps48
  go_wp2_with fail
  go_loopw [0, 3] (fun s0 s3 wr => ∃ (q : Nat) (s : ByteArray), s0 = .int .i64 q ∧ s3 = .string s ∧ q ≤ m ∧ Hid (s.size ≤ 9223372036854775807) ∧ Hid (Lib.decDigits m = preD q ++ s.data.toList) ∧ Hid (Below w.heap.size w wr)) (fun s0 _ _ => (intOf s0).toNat)
  case atStart => exact ⟨m, _, rfl, rfl, Nat.le_refl _, Lib.hid (by show 1 ≤ 9223372036854775807; decide), Lib.hid E0.out, Lib.hid ((Below.refl _ _).alloc (Nat.le_refl _) _)⟩
  case round =>
    clear cv0 E0
    obtain ⟨q, s, rfl, rfl, hq, HS, HD, HB⟩ := hrel
    have q0 : (0 : Int) ≤ (q : Int) := Int.natCast_nonneg _
    have q1 : (q : Int) ≤ 9223372036854775807 := by omega
    by_cases h10 : q < 10
    · have h10i : (q : Int) < 10 := by omega
      have h10n : ¬ (10 : Int) ≤ (q : Int) := by omega
      go_wp2
      go_ret
      refine ⟨?_, HB.out⟩
      have := HD.out
      unfold preD at this
      rw [if_pos h10, List.nil_append] at this
      rw [numB_nat, this]
      rfl
    · have h10i : (10 : Int) ≤ (q : Int) := by omega
      have hsz : s.size ≤ 20 := by
        have h1 := congrArg List.length HD.out
        rw [← Lib.itoa_nonneg] at h1
        have h2 := Lib.itoa_length_le (m : Int) (by omega) m1
        rw [List.length_append] at h1
        have h3 : 1 ≤ (preD q).length := by
          unfold preD; rw [if_neg h10, Lib.decDigits_length]; exact Lib.nDigits_pos _
        have h4 : s.data.toList.length = s.size := rfl
        omega
      obtain ⟨d, hd⟩ : ∃ d : Nat, d = q / 10 := ⟨_, rfl⟩
      have hdi : (q : Int) / 10 = (d : Int) := by omega
      have HDD := Lib.hid hd
      have cvd := cv wr d
      obtain ⟨t, ht, hz, hr⟩ := sum_num (digO d) s (by show 1 + s.size ≤ _; omega)
      have HT := Lib.hid ht
      have HZ := Lib.hid (show t.size ≤ 9223372036854775807 by rw [hz]; show 1 + s.size ≤ _; omega)
      clear ht hz hd
      go_wp2_with fail
      go_roundw
      case rel => exact ⟨d, t, by go_num, rfl, by have := HDD.out; omega, HZ, Lib.hid (by rw [HD.out, preD_step h10, ← HDD.out, HT.out]; simp [digO]), Lib.hid (HB.out.alloc HB.out.size _)⟩
      case measure => have := HDD.out; simp [intOf]; omega
theorem refDecimal_all (n : Int) (h0 : -9223372036854775808 ≤ n) (h1 : n ≤ 9223372036854775807) (w : World) :
    Calls Tryz.prog 48 #[.int .i64 n] w fun e w' => e = .returned (.string (numB n)) ∧ Below w.heap.size w w' := by
  by_cases hn : 0 ≤ n
  · obtain ⟨m, rfl⟩ : ∃ m : Nat, n = (m : Int) := ⟨n.toNat, by omega⟩
    exact refDecimal_nat m (by omega) w
  have hni : n < 0 := by omega
  by_cases hm : n = -9223372036854775808
  · subst hm
    go_enter Tryz.func48, Tryz.ntmps48
    go_wp2
    go_ret
    exact ⟨congrArg (fun x => Ending.returned (.string x)) (show _ = numB (-9223372036854775808) by decide +kernel), Below.refl _ _⟩
  obtain ⟨m, hm2⟩ : ∃ m : Nat, -n = (m : Int) := ⟨(-n).toNat, by omega⟩
  have HN : Hid (n = -(m : Int)) := Lib.hid (by omega)
  have REC := Lib.hid (refDecimal_nat m (by omega) w)
  have h0m : (0 : Int) - n = (m : Int) := by omega
  have hwr : IntKind.i64.wrap ((0 : Int) - n) = (m : Int) := by rw [IntKind.wrap_i64] <;> omega
  have hne : (n == -9223372036854775808) = false := by simpa using hm
  have hs := numB_size (n := (m : Int)) (by omega) (by omega)
  obtain ⟨t, ht, hz, hr⟩ := sum_num ⟨#[45]⟩ (numB (m : Int)) (by show 1 + _ ≤ _; omega)
  have HT : Hid (t = numB n) := Lib.hid (by
    rw [ht, HN.out, numB_nat]
    unfold numB
    rw [Lib.itoa_neg _ (by omega)]
    apply ByteArray.ext
    simp)
  have hm1 : (m : Int) ≤ 9223372036854775807 := by omega
  clear ht hz hm hm2 hs
  go_enter Tryz.func48, Tryz.ntmps48
  go_wp2_with fail
  refine REC.out.mono ?_
  rintro e w1 ⟨rfl, hb1⟩
  go_wp2_with fail
  go_ret
  exact ⟨by rw [HT.out]; rfl, hb1⟩
end Go.Proofs.YtanjcjnkppnhcaaGreatDoor
