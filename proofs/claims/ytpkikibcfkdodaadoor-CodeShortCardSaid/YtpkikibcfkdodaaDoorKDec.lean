/-
  number: a number read.
-/
import Derived.Test.YtpkikibcfkdodaaDoorKRef
namespace Go.Proofs.YtpkikibcfkdodaaDoor
open Go Go.RowKit

/-- The cells from o on read as M. -/
def Reads (w : World) (g o : Nat) (M : List UInt8) : Prop := ∀ j b, M[j]? = some b → w.cell? ⟨g, o + j, none⟩ = some (.int .u8 b.toNat)

theorem ret_3 {a a' b b' : Int} (h1 : a = a') (h2 : b = b') : Ending.returned (.tuple #[.int .u64 a, .int .i64 b, .int .i64 0]) = Ending.returned (.tuple #[.int .u64 a', .int .i64 b', .int .i64 0]) := by rw [h1, h2]
/-- The low bits and the next seven. -/
theorem or_step {X q k : Nat} (hX : X < 2 ^ (7 * k)) (hX2 : X < 18446744073709551616) (hq : q * 2 ^ (7 * k) < 18446744073709551616) : bits .or .u64 (X : Int) (IntKind.u64.wrap ((q : Int) * 2 ^ (7 * k))) = ((X + q * 2 ^ (7 * k) : Nat) : Int) := by
  have e : (q : Int) * 2 ^ (7 * k) = ((q * 2 ^ (7 * k) : Nat) : Int) := by rw [Int.natCast_mul, Int.natCast_pow]; rfl
  have hm : q * 2 ^ (7 * k) % 2 ^ (7 * k) = 0 := Nat.mul_mod_left _ _
  rw [e]
  generalize q * 2 ^ (7 * k) = Y at *
  rw [IntKind.wrap_u64, Int.emod_eq_of_lt (by omega) (by omega), u64_or_nat X Y hX2 hq, Nat.or_comm, nat_join (7 * k) Y X hm hX, Nat.add_comm]

set_option maxRecDepth 100000 in
set_option maxHeartbeats 2000000 in
theorem decNum_any (w : World) (g o c u : Nat) (M rest : List UInt8) (hM : M = enc u ++ rest) (hu : u < 18446744073709551616) (hr : Reads w g o M) (hl : M.length ≤ 1000000) :
    Calls Tryd.prog 45 #[.slice (some ⟨g, o, none⟩) M.length c] w fun e w' => e = .returned (.tuple #[.int .u64 u, .int .i64 ((enc u).length : Nat), .int .i64 0]) ∧ w' = w := by
  have HM := Lib.hid hM
  have HU := Lib.hid hu
  have HR := Lib.hid hr
  clear hM hu hr
  go_enter Tryd.func45, Tryd.ntmps45
  go_wp2_with fail
  go_loopw [2, 9] (fun s2 s9 wr => ∃ (k X : Nat), s2 = .int .u64 X ∧ s9 = .int .i64 k ∧ wr = w ∧ k ≤ 9 ∧ Hid (X = u % 2 ^ (7 * k)) ∧ Hid (M.drop k = enc (u / 2 ^ (7 * k)) ++ rest) ∧ Hid (0 < k → 0 < u / 2 ^ (7 * k)) ∧ Hid ((enc u).length = k + (enc (u / 2 ^ (7 * k))).length)) (fun _ s9 _ => 10 - (intOf s9).toNat)
  case atStart => exact ⟨0, 0, rfl, rfl, rfl, by omega, Lib.hid (by simp; omega), Lib.hid (by simpa using HM.out), Lib.hid (by omega), Lib.hid (by simp)⟩
  case round =>
    obtain ⟨k, X, rfl, rfl, rfl, hk, hX, hD, hP, hL⟩ := hrel
    have k0 : (0 : Int) ≤ (k : Int) := Int.natCast_nonneg _
    have hq9 : Hid (u / 2 ^ (7 * k) < 2 ^ (64 - 7 * k)) := Lib.hid (by
      apply Nat.div_lt_of_lt_mul
      rw [← Nat.pow_add, show 7 * k + (64 - 7 * k) = 64 by omega]
      exact HU.out)
    have hdm : Hid (u = 2 ^ (7 * k) * (u / 2 ^ (7 * k)) + u % 2 ^ (7 * k)) := Lib.hid (Nat.div_add_mod u (2 ^ (7 * k))).symm
    obtain ⟨q, hq⟩ : ∃ q, q = u / 2 ^ (7 * k) := ⟨_, rfl⟩
    rw [← hq] at hD hP hL hq9 hdm
    rw [← hX.out] at hdm
    have HQ := Lib.hid hq
    clear hq
    have hXlt : Hid (X < 2 ^ (7 * k)) := Lib.hid (by rw [hX.out]; exact Nat.mod_lt _ (Nat.two_pow_pos _))
    by_cases h128 : q < 128
    · have hM0 : M[k]? = some (UInt8.ofNat q) := by
        have := hD.out
        rw [enc_small h128] at this
        have h2 := congrArg (fun l : List UInt8 => l[0]?) this
        simpa using h2
      have hkl := (List.getElem?_eq_some_iff.1 hM0).1
      have k1 : (k : Int) < (M.length : Int) := by omega
      have x0 : wr.cell? ⟨g, o + k, none⟩ = some (.int .u8 (q : Int)) := by
        rw [HR.out k _ hM0, show (UInt8.ofNat q).toNat = q by simp [UInt8.toNat_ofNat']; omega]
      have hRes : Hid ((X + q * 2 ^ (7 * k) : Nat) = u) := Lib.hid (by rw [Nat.mul_comm q]; have := hdm.out; omega)
      have hEl : Hid ((enc u).length = k + 1) := Lib.hid (by rw [hL.out, enc_small h128]; rfl)
      have hOr : Hid (bits .or .u64 (X : Int) (IntKind.u64.wrap ((q : Int) * 2 ^ (7 * k))) = (u : Int)) := Lib.hid (by rw [or_step hXlt.out (by have := hRes.out; have := HU.out; omega) (by have := hRes.out; have := HU.out; omega), hRes.out])
      clear hM0
      by_cases h9 : k = 9
      · have hq1 : q = 1 := by
          have a := hP.out (by omega)
          have b := hq9.out
          rw [h9] at b
          simp at b
          omega
        subst hq1
        subst h9
        have hOr9 : bits .or .u64 (X : Int) 9223372036854775808 = (u : Int) := by
          have := hOr.out
          rw [show IntKind.u64.wrap (((1 : Nat) : Int) * 2 ^ (7 * 9)) = 9223372036854775808 from by decide] at this
          exact this
        have HO9 := Lib.hid hOr9
        clear hOr9
        go_wp2_with fail
        go_ret3
        exact ⟨ret_3 HO9.out (by rw [hEl.out]; rfl), rfl⟩
      · have g9 : ((k : Int) == 9) = false := by simp; omega
        have b0 : (0 : Int) ≤ (q : Int) := Int.natCast_nonneg _
        have b1 : (q : Int) < 128 := by omega
        have b2 : bits .and .u8 (q : Int) 127 = (q : Int) := by rw [u8_and127' q (by omega), Nat.mod_eq_of_lt h128]
        by_cases hk0 : k = 0 ∧ q = 0
        · obtain ⟨rfl, rfl⟩ := hk0
          have hX0 : X = 0 := by have := hXlt.out; simp at this; exact this
          subst hX0
          have hu0 : u = 0 := by have := hRes.out; simp at this; exact this.symm
          have x1 : wr.cell? ⟨g, o, none⟩ = some (.int .u8 0) := by simpa using x0
          clear x0 b2 b1 b0 g9 k1 k0
          go_wp2_with fail
          go_ret3
          refine ⟨ret_3 (by rw [hu0]; first | rfl | decide) (by rw [hEl.out]; rfl), rfl⟩
        · have hq0 : ((q : Int) == 0) = false := by
            have := hP.out
            simp; omega
          go_wp2_with fail
          go_ret3
          exact ⟨ret_3 hOr.out (by rw [hEl.out]; omega), rfl⟩
    · have hk8 : k < 9 := by
        rcases Nat.lt_or_ge k 9 with h | h
        · exact h
        · have b := hq9.out
          rw [show k = 9 by omega] at b
          simp at b
          omega
      obtain ⟨y, hy⟩ : ∃ y, y = q % 128 + 128 := ⟨_, rfl⟩
      obtain ⟨z, hz⟩ : ∃ z, z = q % 128 := ⟨_, rfl⟩
      have hM0 : M[k]? = some (UInt8.ofNat y) := by
        have := hD.out
        rw [enc_big h128, ← hy] at this
        have h2 := congrArg (fun l : List UInt8 => l[0]?) this
        simpa using h2
      have hkl := (List.getElem?_eq_some_iff.1 hM0).1
      have k1 : (k : Int) < (M.length : Int) := by omega
      have x0 : wr.cell? ⟨g, o + k, none⟩ = some (.int .u8 (y : Int)) := by
        rw [HR.out k _ hM0, show (UInt8.ofNat y).toNat = y by simp [UInt8.toNat_ofNat']; omega]
      have e1 : u / 2 ^ (7 * (k + 1)) = q / 128 := by
        rw [show 7 * (k + 1) = 7 * k + 7 by omega, Nat.pow_add, ← Nat.div_div_eq_div_mul, ← HQ.out]
      have e2 : u % 2 ^ (7 * (k + 1)) = X + z * 2 ^ (7 * k) := by
        rw [show 7 * (k + 1) = 7 * k + 7 by omega, Nat.pow_add, Nat.mod_mul, ← HQ.out, ← hX.out, Nat.mul_comm, hz]
      have hle : z * 2 ^ (7 * k) ≤ u := by
        have : z * 2 ^ (7 * k) ≤ q * 2 ^ (7 * k) := Nat.mul_le_mul_right _ (by omega)
        have h2 := hdm.out
        rw [Nat.mul_comm] at h2
        omega
      have hOr : Hid (bits .or .u64 (X : Int) (IntKind.u64.wrap ((z : Int) * 2 ^ (7 * k))) = ((X + z * 2 ^ (7 * k) : Nat) : Int)) := Lib.hid (or_step hXlt.out (by have := hdm.out; have := HU.out; omega) (by have := HU.out; omega))
      have hX2 : Hid (X + z * 2 ^ (7 * k) = u % 2 ^ (7 * (k + 1))) := Lib.hid e2.symm
      have hD2 : Hid (M.drop (k + 1) = enc (u / 2 ^ (7 * (k + 1))) ++ rest) := Lib.hid (by
        rw [e1]
        have := hD.out
        rw [enc_big h128] at this
        rw [← List.drop_drop, this]; rfl)
      have hP2 : Hid (0 < k + 1 → 0 < u / 2 ^ (7 * (k + 1))) := Lib.hid fun _ => by rw [e1]; omega
      have hL2 : Hid ((enc u).length = k + 1 + (enc (u / 2 ^ (7 * (k + 1)))).length) := Lib.hid (by rw [e1, hL.out, enc_big h128, List.length_cons]; omega)
      have g9 : ((k : Int) == 9) = false := by simp; omega
      have b0 : (128 : Int) ≤ (y : Int) := by omega
      have b1 : (y : Int) < 256 := by omega
      have b2 : bits .and .u8 (y : Int) 127 = (z : Int) := by rw [u8_and127' y (by omega), hz]; omega
      have b3 : (0 : Int) ≤ (z : Int) := Int.natCast_nonneg _
      have b4 : (z : Int) < 128 := by omega
      clear hM0 e1 e2 hle hz hy
      go_wp2_with fail
      go_roundw
      case rel => exact ⟨k + 1, X + z * 2 ^ (7 * k), by rw [hOr.out], by go_num, trivial, hk8, hX2, hD2, hP2, hL2⟩
      case measure => simp [intOf]; omega
#print axioms decNum_any
end Go.Proofs.YtpkikibcfkdodaaDoor
