/-
  Words turned: math/bits.RotateLeft32, turned, small, the document's turn.
-/
import Derived.Test.YtpkikibcfkdodaaKMem
namespace Go.Proofs.Ytpkikibcfkdodaa
open Go Go.RowKit

/-- x turned to the right by a. -/
def rotr (a x : Nat) : Nat := x / 2 ^ a ||| x * 2 ^ (32 - a) % 4294967296
theorem rotr_lt {a x : Nat} (hx : x < 4294967296) : rotr a x < 4294967296 := by
  unfold rotr
  have h1 : x / 2 ^ a < 2 ^ 32 := Nat.lt_of_le_of_lt (Nat.div_le_self _ _) hx
  have h2 : x * 2 ^ (32 - a) % 4294967296 < 2 ^ 32 := Nat.mod_lt _ (by decide)
  exact Nat.or_lt_two_pow h1 h2
theorem xor_lt32 {a b : Nat} (ha : a < 4294967296) (hb : b < 4294967296) : a ^^^ b < 4294967296 := Nat.xor_lt_two_pow (n := 32) ha hb
theorem u32_shl {x a : Nat} : IntKind.u32.wrap ((x : Int) * 2 ^ a) = ((x * 2 ^ a % 4294967296 : Nat) : Int) := by
  have e : (x : Int) * 2 ^ a = ((x * 2 ^ a : Nat) : Int) := by rw [Int.natCast_mul, Int.natCast_pow]; rfl
  rw [e]
  generalize x * 2 ^ a = Y
  rw [IntKind.wrap_u32']
  omega
theorem u32_shr {x a : Nat} : (x : Int) / 2 ^ a = ((x / 2 ^ a : Nat) : Int) := by
  rw [Int.natCast_ediv, Int.natCast_pow]; rfl
theorem neg_and31 {a : Nat} (h1 : 1 ≤ a) (h2 : a ≤ 31) : bits .and .u64 (IntKind.u64.wrap (-(a : Int))) 31 = ((32 - a : Nat) : Int) := by
  rw [IntKind.wrap_u64]
  obtain ⟨m, hm⟩ : ∃ m : Nat, (m : Int) = -(a : Int) % 18446744073709551616 := ⟨(-(a : Int) % 18446744073709551616).toNat, by omega⟩
  rw [← hm]
  have := bits_mask .u64 64 (by decide) wraps_u64 5 (by decide) (m : Int) (by omega) (by omega)
  rw [show ((2 : Int) ^ 5 - 1) = 31 from rfl] at this
  rw [this]
  omega

theorem u32_shl' {x a : Nat} : (x : Int) * 2 ^ a % 4294967296 = ((x * 2 ^ a % 4294967296 : Nat) : Int) := by
  have e : (x : Int) * 2 ^ a = ((x * 2 ^ a : Nat) : Int) := by rw [Int.natCast_mul, Int.natCast_pow]; rfl
  rw [e]
  generalize x * 2 ^ a = Y
  omega
theorem rot_val {x a b : Nat} (hx : x < 4294967296) (hb : b = 32 - a) : bits .or .u32 ((x : Int) * 2 ^ b % 4294967296) ((x : Int) / 2 ^ a) = (rotr a x : Int) := by
  have h1 : x / 2 ^ a < 4294967296 := Nat.lt_of_le_of_lt (Nat.div_le_self _ _) hx
  have h2 : x * 2 ^ (32 - a) % 4294967296 < 4294967296 := Nat.mod_lt _ (by decide)
  subst hb
  rw [u32_shl', u32_shr, u32_or_nat _ _ h2 h1]
  unfold rotr
  rw [Nat.or_comm]
theorem ret_u32 {a b : Int} (h : a = b) : Ending.returned (.int .u32 a) = Ending.returned (.int .u32 b) := by rw [h]

set_option maxRecDepth 100000 in
set_option maxHeartbeats 1000000 in
theorem rot_any (w : World) (x a : Nat) (hx : x < 4294967296) (h1 : 1 ≤ a) (h2 : a ≤ 31) :
    Calls Try.prog 43 #[.int .u32 x, .int .i64 (-(a : Int))] w fun e w' => e = .returned (.int .u32 (rotr a x)) ∧ w' = w := by
  have e1 := neg_and31 h1 h2
  obtain ⟨b, hb⟩ : ∃ b, b = 32 - a := ⟨_, rfl⟩
  rw [← hb] at e1
  have b1 : b ≤ 31 := by omega
  have b2 : (b : Int) ≤ 31 := by omega
  have b3 : (32 : Int) - (b : Int) = (a : Int) := by omega
  have HX := Lib.hid hx
  have HB := Lib.hid hb
  clear hx hb
  go_enter Try.func43, Try.ntmps43
  go_wp2_with fail
  go_ret
  exact ⟨ret_u32 (rot_val HX.out HB.out), rfl⟩
#print axioms rot_any

theorem rot_quiet {x a : Nat} (hx : x < 4294967296) (h1 : 1 ≤ a) (h2 : a ≤ 31) : ∀ W, Calls Try.prog 43 #[.int .u32 x, .int .i64 (-(a : Int))] W fun e w' => e = .returned (.int .u32 (rotr a x)) ∧ w' = W := fun W => rot_any W x a hx h1 h2

/-- Three turns. -/
def turn3 (a b c x : Nat) : Nat := rotr a x ^^^ rotr b x ^^^ rotr c x
def turn2 (a b c x : Nat) : Nat := rotr a x ^^^ rotr b x ^^^ x / 2 ^ c
theorem turn3_lt {a b c x : Nat} (hx : x < 4294967296) : turn3 a b c x < 4294967296 := xor_lt32 (xor_lt32 (rotr_lt hx) (rotr_lt hx)) (rotr_lt hx)
theorem turn2_lt {a b c x : Nat} (hx : x < 4294967296) : turn2 a b c x < 4294967296 := xor_lt32 (xor_lt32 (rotr_lt hx) (rotr_lt hx)) (Nat.lt_of_le_of_lt (Nat.div_le_self _ _) hx)

set_option maxRecDepth 100000 in
set_option maxHeartbeats 1000000 in
theorem turned_any (w : World) (x a b c : Nat) (hx : x < 4294967296) (ha : 1 ≤ a ∧ a ≤ 31) (hb : 1 ≤ b ∧ b ≤ 31) (hc : 1 ≤ c ∧ c ≤ 31) :
    Calls Try.prog 42 #[.int .u32 x, .int .i64 a, .int .i64 b, .int .i64 c] w fun e w' => e = .returned (.int .u32 (turn3 a b c x)) ∧ w' = w := by
  have RA := Lib.hid (rot_quiet hx ha.1 ha.2)
  have RB := Lib.hid (rot_quiet hx hb.1 hb.2)
  have RC := Lib.hid (rot_quiet hx hc.1 hc.2)
  have LA := rotr_lt (a := a) hx
  have LB := rotr_lt (a := b) hx
  have LC := rotr_lt (a := c) hx
  have e1 : bits .xor .u32 (rotr a x : Int) (rotr b x : Int) = ((rotr a x ^^^ rotr b x : Nat) : Int) := u32_xor_nat _ _ LA LB
  have e2 : bits .xor .u32 ((rotr a x ^^^ rotr b x : Nat) : Int) (rotr c x : Int) = (turn3 a b c x : Int) := u32_xor_nat _ _ (xor_lt32 LA LB) LC
  have HL := Lib.hid (And.intro LA (And.intro LB LC))
  clear LA LB LC
  generalize rotr a x = A at *
  generalize rotr b x = B at *
  generalize rotr c x = C at *
  generalize A ^^^ B = AB at *
  go_enter Try.func42, Try.ntmps42
  go_wp2_with fail
  refine (RA.out _).mono ?_
  rintro e w1 ⟨rfl, rfl⟩
  go_wp2_with fail
  refine (RB.out _).mono ?_
  rintro e w1 ⟨rfl, rfl⟩
  go_wp2_with fail
  refine (RC.out _).mono ?_
  rintro e w1 ⟨rfl, rfl⟩
  go_wp2_with fail
  go_ret
  exact ⟨by first | rfl | (rw [e1, e2]), rfl⟩
#print axioms turned_any

set_option maxRecDepth 100000 in
set_option maxHeartbeats 1000000 in
theorem small_any (w : World) (x a b c : Nat) (hx : x < 4294967296) (ha : 1 ≤ a ∧ a ≤ 31) (hb : 1 ≤ b ∧ b ≤ 31) (hc : c ≤ 31) :
    Calls Try.prog 41 #[.int .u32 x, .int .i64 a, .int .i64 b, .int .i64 c] w fun e w' => e = .returned (.int .u32 (turn2 a b c x)) ∧ ∃ k, w' = w.drewN k := by
  have RA := Lib.hid (rot_quiet hx ha.1 ha.2)
  have RB := Lib.hid (rot_quiet hx hb.1 hb.2)
  have LA := rotr_lt (a := a) hx
  have LB := rotr_lt (a := b) hx
  have LC : x / 2 ^ c < 4294967296 := Nat.lt_of_le_of_lt (Nat.div_le_self _ _) hx
  have e1 : bits .xor .u32 (rotr a x : Int) (rotr b x : Int) = ((rotr a x ^^^ rotr b x : Nat) : Int) := u32_xor_nat _ _ LA LB
  have e2 : bits .xor .u32 ((rotr a x ^^^ rotr b x : Nat) : Int) ((x : Int) / 2 ^ c) = (turn2 a b c x : Int) := by rw [u32_shr]; exact u32_xor_nat _ _ (xor_lt32 LA LB) LC
  have HL := Lib.hid (And.intro LA (And.intro LB LC))
  clear LA LB LC
  generalize rotr a x = A at *
  generalize rotr b x = B at *
  generalize A ^^^ B = AB at *
  have c0 : (0 : Int) ≤ (c : Int) := Int.natCast_nonneg _
  have n1 : IntKind.i64.wrap (-(a : Int)) = -(a : Int) := by rw [IntKind.wrap_i64]; omega
  have n2 : IntKind.i64.wrap (-(b : Int)) = -(b : Int) := by rw [IntKind.wrap_i64]; omega
  clear ha hb
  go_enter Try.func41, Try.ntmps41
  go_wp2_with fail
  go_quiet ((go_at_call 43; first | with_reducible exact Calls.quiet_of_same (RA.out _) | with_reducible exact Calls.quiet_of_same (RB.out _)))
  go_wp2_with fail
  go_ret
  exact ⟨by first | rfl | (rw [e1, e2]), nq, rfl⟩
#print axioms small_any

set_option maxRecDepth 100000 in
set_option maxHeartbeats 1000000 in
theorem docTurn_any (w : World) (x a : Nat) (hx : x < 4294967296) (h1 : 1 ≤ a) (h2 : a ≤ 31) :
    Calls Try.prog 36 #[.int .u32 x, .int .i64 a] w fun e w' => e = .returned (.int .u32 (rotr a x)) ∧ ∃ k, w' = w.drewN k := by
  have b0 : (0 : Int) ≤ (a : Int) := Int.natCast_nonneg _
  have HX := Lib.hid hx
  clear hx
  go_enter Try.func36, Try.ntmps36
  go_wp2_with fail
  go_ret
  exact ⟨ret_u32 (by
    have h1' : x / 2 ^ a < 4294967296 := Nat.lt_of_le_of_lt (Nat.div_le_self _ _) HX.out
    have h2' : x * 2 ^ (32 - a) % 4294967296 < 4294967296 := Nat.mod_lt _ (by decide)
    rw [u32_shl', u32_shr, u32_or_nat _ _ h1' h2']; rfl), 0, rfl⟩
#print axioms docTurn_any
end Go.Proofs.Ytpkikibcfkdodaa
