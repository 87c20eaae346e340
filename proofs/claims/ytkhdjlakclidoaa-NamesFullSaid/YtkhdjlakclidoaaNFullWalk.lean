/-
  The walk of NamesFull.
-/
import Derived.Test.YtkhdjlakclidoaaNHeadWalk
import Derived.Laws.IdiomStrings
namespace Go.Proofs.Ytkhdjlakclidoaa
open Go.RowKit

/-- The name of the round i. -/
def nm (i : Nat) : ByteArray := ⟨#[110, UInt8.ofNat (97 + i / 10), UInt8.ofNat (48 + i % 10)]⟩
theorem nm_less : ∀ b, b < 68 → ∀ a, a < b → cb (nm a) (nm b) < 0 := by decide +kernel
theorem nm_good : ∀ b, b < 68 → goodN (nm b) = true := by decide +kernel
def full (k : Nat) : List Rf := (List.range k).map fun i => (nm i, (1 + i : Int))
theorem full_at (k i : Nat) (h : i < k) : (full k)[i]? = some (nm i, (1 + i : Int)) := by
  unfold full
  rw [List.getElem?_map, List.getElem?_range h]; rfl
theorem full_len (k : Nat) : (full k).length = k := by simp [full]
theorem full_pos (k i : Nat) (hki : k ≤ i) (hi : i < 68) : pos (full k) (nm i) = k := by
  refine pos_of (by rw [full_len]; exact Nat.le_refl _) (fun t x ht hx => ?_) (fun t x ht hx => ?_)
  · rw [full_at k t ht] at hx
    have := Option.some.inj hx
    subst this
    exact nm_less i hi t (by omega)
  · have := (List.getElem?_eq_some_iff.1 hx).1
    rw [full_len] at this
    omega
theorem full_has (k i : Nat) (hki : k ≤ i) (hi : i < 68) : hasB (full k) (nm i) = false := by
  unfold hasB
  rw [full_pos k i hki hi, List.getElem?_eq_none (by rw [full_len]; exact Nat.le_refl _)]
  rfl
theorem full_set (i : Nat) (hi : i < 64) : setC (full i) (nm i) (1 + i : Int) = 0 ∧ setL (full i) (nm i) (1 + i : Int) = full (i + 1) := by
  have hg := nm_good i (by omega)
  have hh := full_has i i (Nat.le_refl _) (by omega)
  have hc : setC (full i) (nm i) (1 + i : Int) = 0 := by
    unfold setC
    rw [hg, if_pos rfl, if_neg (by omega), hh, if_neg (by simp), full_len, if_neg (by omega)]
  refine ⟨hc, ?_⟩
  unfold setL setR
  rw [hc, if_pos rfl, hh, full_pos i i (Nat.le_refl _) (by omega)]
  show insR (full i) i _ = _
  unfold insR
  rw [List.take_of_length_le (by rw [full_len]; exact Nat.le_refl _), List.drop_eq_nil_of_le (by rw [full_len]; exact Nat.le_refl _)]
  unfold full
  rw [List.range_succ, List.map_append]
  rfl
theorem full_more (i : Nat) (h : 64 ≤ i) (hi : i < 68) : setC (full 64) (nm i) (1 + i : Int) = 4 ∧ setL (full 64) (nm i) (1 + i : Int) = full 64 := by
  have hc : setC (full 64) (nm i) (1 + i : Int) = 4 := by
    unfold setC
    rw [nm_good i hi, if_pos rfl, if_neg (by omega), full_has 64 i h hi, if_neg (by simp), full_len, if_pos (by omega)]
  exact ⟨hc, by unfold setL; rw [hc]; rfl⟩

theorem conv2 (W : World) (x y : Int) (h0 : 0 ≤ x) (h1 : x ≤ 255) (g0 : 0 ≤ y) (g1 : y ≤ 255) :
    (convert 49 9 (.slice (some ⟨W.heap.size, 0, none⟩) 2 2)).run Try.prog (W.alloc (.cells #[.int .u8 x, .int .u8 y] 5)) = .ok (.string ⟨#[UInt8.ofNat x.toNat, UInt8.ofNat y.toNat]⟩) (W.alloc (.cells #[.int .u8 x, .int .u8 y] 5)) := by
  have hh := heap_alloc_new W (.cells #[.int .u8 x, .int .u8 y] 5)
  have := run_convert_bytes_back (P := Try.prog) (W.alloc (.cells #[.int .u8 x, .int .u8 y] 5)) 49 9 5 ⟨W.heap.size, 0, none⟩ 2 [UInt8.ofNat x.toNat, UInt8.ofNat y.toNat] Try.underlying49 Try.underlying5 Try.underlying9 (fun i hi => by
    have hc := cell_of_row _ _ i _ 5 (0, 0) hh
    have e : ((⟨W.heap.size, 0, none⟩ : Addr).add i) = ⟨W.heap.size, i, none⟩ := by unfold Addr.add; split <;> simp_all
    rw [e, hc]
    have hi2 : i < 2 := by simpa using hi
    match i, hi2 with
    | 0, _ => simp; omega
    | 1, _ => simp; omega)
  exact this

theorem nm_sum : ∀ i, i < 68 → (({ data := #[110] } : ByteArray) ++ { data := #[97 + UInt8.ofNat (i / 10), 48 + UInt8.ofNat (i % 10)] }) = nm i := by decide +kernel
theorem last_move : movC (full 64) mainB 5 = 4 ∧ movL (full 64) mainB 5 = full 64 ∧ movD mainB 0 5 = 0 := by decide +kernel
theorem last_set : setC (full 64) (nm 0) 9 = 0 := by decide +kernel
theorem last_len : (setL (full 64) (nm 0) 9).length = 64 := by decide +kernel
theorem last_head : headC (setL (full 64) (nm 0) 9) mainB 0 = 0 := by decide +kernel
theorem nm0 : ({ data := #[110, 97, 48] } : ByteArray) = nm 0 := by decide +kernel
theorem nm_size (i : Nat) : (nm i).size = 3 := rfl

set_option maxRecDepth 100000 in
set_option maxHeartbeats 4000000 in
theorem full_walk (a : Int) (ha0 : 0 ≤ a) (ha1 : a ≤ 255) (w : World) : Calls Try.prog 4 #[.int .u8 a] w (YesB w) := by
  obtain ⟨N, hN⟩ : ∃ N, N = w.heap.size := ⟨_, rfl⟩
  have HN := Lib.hid hN
  go_enter Try.func4, Try.ntmps4
  go_wp2_with fail
  refine (known_yes w).mono ?_
  rintro e w0 ⟨rfl, b0⟩
  rw [← hN] at b0
  clear hN
  go_wp2_with fail
  refine (new_any w0).mono ?_
  rintro e w1 ⟨rfl, t1, b1'⟩
  have hNB : N ≤ w0.heap.size := by have := b0.size; rw [← HN.out] at this; exact this
  have T1 := Lib.hid t1
  have b1 : Below N w w1 := b0.trans (b1'.mono hNB)
  clear b1'
  generalize w0.heap.size = B at *
  clear t1 b0
  go_wp2_with fail
  obtain ⟨m, hm, hm2⟩ : ∃ m : Nat, a % 4 = (m : Int) ∧ m ≤ 3 := ⟨(a % 4).toNat, by omega, by omega⟩
  have HM := Lib.hid hm
  clear hm
  go_loopw [4] (fun s4 wr => ∃ (i : Nat) (v : Value), i ≤ 64 + m ∧ s4 = .int .i64 i ∧ Hid (Tab wr B B v (full (min i 64)) mainB 0) ∧ Below N w wr) (fun s4 _ => 64 + m - (intOf s4).toNat)
  case atStart => exact ⟨0, _, Nat.zero_le _, rfl, T1, b1⟩
  case round =>
    obtain ⟨i, v, hi, rfl, T, hb⟩ := hrel
    have hi0 : (0 : Int) ≤ (i : Int) := Int.natCast_nonneg _
    have hm3 : a % 4 = (m : Int) := HM.out
    by_cases hlt : i < 64 + m
    · have hlt2 : (i : Int) < 64 + a % 4 := by omega
      clear hm3
      have cv := fun W => conv2 W (97 + (i : Int) / 10) (48 + (i : Int) % 10) (by omega) (by omega) (by omega) (by omega)
      go_wp2_with fail
      rw [nm_sum i (by omega)]
      obtain ⟨T2, b2⟩ := Tab.go T ((Below.refl wr.heap.size wr).alloc (Nat.le_refl _) (.cells #[.int .u8 (97 + (i : Int) / 10), .int .u8 (48 + (i : Int) % 10)] 5)) hb hNB
      by_cases h64 : i < 64
      · have e1 : min i 64 = i := by omega
        have e2 : min (i + 1) 64 = i + 1 := by omega
        rw [e1] at T T2
        refine (set_any _ B B v _ mainB (nm i) 0 (1 + i : Int) T2.out (by rw [nm_size]; decide) (by omega) (by omega)).mono ?_
        intro e w3 hD
        obtain ⟨rfl, v3, T3, b3⟩ := Did.go T2 hD b2 hNB (full_set i h64).1 (full_set i h64).2 rfl rfl
        have h64i : (i : Int) < 64 := by omega
        have T4 : Hid (Tab w3 B B v3 (full (min (i + 1) 64)) mainB 0) := by rw [e2]; exact T3
        clear hD T T2 T3 b2 hb cv e1 e2
        go_wp2_with fail
        go_roundw
        case rel => exact ⟨i + 1, v3, by omega, by go_num, T4, b3⟩
        case measure => simp [intOf]; omega
      · have e1 : min i 64 = 64 := by omega
        have e2 : min (i + 1) 64 = 64 := by omega
        rw [e1] at T T2
        refine (set_any _ B B v _ mainB (nm i) 0 (1 + i : Int) T2.out (by rw [nm_size]; decide) (by omega) (by omega)).mono ?_
        intro e w3 hD
        obtain ⟨rfl, v3, T3, b3⟩ := Did.go T2 hD b2 hNB (full_more i (by omega) (by omega)).1 (full_more i (by omega) (by omega)).2 rfl rfl
        have h64i : ¬ (i : Int) < 64 := by omega
        have h64j : (64 : Int) ≤ (i : Int) := by omega
        have T4 : Hid (Tab w3 B B v3 (full (min (i + 1) 64)) mainB 0) := by rw [e2]; exact T3
        clear hD T T2 T3 b2 hb cv e1 e2
        go_wp2_with fail
        go_roundw
        case rel => exact ⟨i + 1, v3, by omega, by go_num, T4, b3⟩
        case measure => simp [intOf]; omega
    · have hlt2 : ¬ (i : Int) < 64 + a % 4 := by omega
      obtain rfl : i = 64 + m := by omega
      have e1 : min (64 + m) 64 = 64 := by omega
      rw [e1] at T
      clear hm3 e1
      go_wp2_with fail
      refine (move_any wr B B v _ mainB 0 5 T.out (by decide) (by decide) (by decide)).mono ?_
      intro e w3 hD
      obtain ⟨rfl, v3, T3, b3⟩ := Did.go T hD hb hNB last_move.1 last_move.2.1 rfl last_move.2.2
      clear hD T hb
      go_wp2_with fail
      rw [nm0]
      refine (set_any w3 B B v3 _ mainB (nm 0) 0 9 T3.out (by rw [nm_size]; decide) (by decide) (by decide)).mono ?_
      intro e w4 hD
      obtain ⟨rfl, v4, T4, b4⟩ := Did.go T3 hD b3 hNB last_set rfl rfl rfl
      have hl := last_len
      have hh := last_head
      generalize setL (full 64) (nm 0) 9 = L at *
      clear hD T3 b3
      go_wp2_with fail
      refine (row_any w4 B B v4 L mainB 0 T4.out).mono ?_
      rintro e w5 ⟨v5, rfl, o5, hb5⟩
      obtain ⟨A5, c5, rfl⟩ := own_form o5
      rw [hl]
      obtain ⟨T5, b5⟩ := Tab.go T4 hb5 b4 hNB
      clear hb5 b4 T4 o5
      go_wp2_with fail
      refine (head_any w5 B B v4 L mainB 0 T5.out).mono ?_
      rintro e w6 ⟨rfl, hb6⟩
      rw [hh]
      obtain ⟨T6, b6⟩ := Tab.go T5 hb6 b5 hNB
      clear hb6 b5 T5
      have hfd : ∀ w : World, (Instr.field 39 (.agg #[.string mainB, .int .i64 0]) 1).run Try.prog w = .ok (.int .i64 0) w := fun _ => by kernel_rfl
      go_wp2_with fail
      go_ret
      exact ⟨rfl, by rw [← HN.out]; exact b6⟩
end Go.Proofs.Ytkhdjlakclidoaa
