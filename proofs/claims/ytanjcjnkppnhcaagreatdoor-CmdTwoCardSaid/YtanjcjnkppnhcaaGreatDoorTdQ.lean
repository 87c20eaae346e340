/-
  rectoref17.Verb: a step's verb's place.
-/
import Derived.Test.YtanjcjnkppnhcaaGreatDoorTdB
import Derived.Test.YtanjcjnkppnhcaaGreatDoorTdP
namespace Go.Proofs.YtanjcjnkppnhcaaGreatDoor
open Go Go.RowKit

def verbL : List ByteArray := [⟨#[112, 105, 99, 107]⟩, ⟨#[114, 101, 119, 111, 114, 100]⟩, ⟨#[101, 100, 105, 116]⟩, ⟨#[115, 113, 117, 97, 115, 104]⟩, ⟨#[102, 105, 120, 117, 112]⟩, ⟨#[100, 114, 111, 112]⟩]
theorem verb_known : ∀ x ∈ verbL, knownV x = true := by decide +kernel
theorem eq_of_toListB {v : ByteArray} {l : List UInt8} (h : v.toList = l) : v = mkW l := bytesB_eq (by rw [list_mkW, ← h, ByteArray.toList_eq])
theorem known_verb {v : ByteArray} (h : knownV v = true) : v ∈ verbL := by
  unfold knownV at h
  simp only [Bool.or_eq_true, beq_iff_eq] at h
  unfold verbL
  rcases h with ((((h | h) | h) | h) | h) | h <;> (rw [eq_of_toListB h]; simp [mkW])
def OneB (v : ByteArray) (w : World) (e : Ending) (w' : World) : Prop := ∃ n : Int, e = .returned (.int .i64 n) ∧ decide (n < 0) = !knownV v ∧ -1 ≤ n ∧ Below w.heap.size w w'
set_option maxRecDepth 100000 in
set_option maxHeartbeats 2000000 in
theorem refVerb_any (v : ByteArray) (w : World) : Calls Tryz.prog 14 #[.string v] w (OneB v w) := by
  have hB := (Below.refl w.heap.size w).alloc (Nat.le_refl _) (.cells #[.string ⟨#[112, 105, 99, 107]⟩, .string ⟨#[114, 101, 119, 111, 114, 100]⟩, .string ⟨#[101, 100, 105, 116]⟩, .string ⟨#[115, 113, 117, 97, 115, 104]⟩, .string ⟨#[102, 105, 120, 117, 112]⟩, .string ⟨#[100, 114, 111, 112]⟩] 9)
  have HK := Blk.new w 9 #[.string ⟨#[112, 105, 99, 107]⟩, .string ⟨#[114, 101, 119, 111, 114, 100]⟩, .string ⟨#[101, 100, 105, 116]⟩, .string ⟨#[115, 113, 117, 97, 115, 104]⟩, .string ⟨#[102, 105, 120, 117, 112]⟩, .string ⟨#[100, 114, 111, 112]⟩]
  have HC : ∀ (k : Nat) (x : ByteArray), verbL[k]? = some x → (w.alloc (.cells #[.string ⟨#[112, 105, 99, 107]⟩, .string ⟨#[114, 101, 119, 111, 114, 100]⟩, .string ⟨#[101, 100, 105, 116]⟩, .string ⟨#[115, 113, 117, 97, 115, 104]⟩, .string ⟨#[102, 105, 120, 117, 112]⟩, .string ⟨#[100, 114, 111, 112]⟩] 9)).cell? ⟨w.heap.size, k, none⟩ = some (.string x) := fun k x hx => by
    rw [HK.cell]
    have : (#[Value.string ⟨#[112, 105, 99, 107]⟩, .string ⟨#[114, 101, 119, 111, 114, 100]⟩, .string ⟨#[101, 100, 105, 116]⟩, .string ⟨#[115, 113, 117, 97, 115, 104]⟩, .string ⟨#[102, 105, 120, 117, 112]⟩, .string ⟨#[100, 114, 111, 112]⟩] : Array Value) = (verbL.map Value.string).toArray := rfl
    rw [this, List.getElem?_toArray, List.getElem?_map, hx]
    rfl
  have HB := Lib.hid hB
  have HC := Lib.hid HC
  clear hB HK
  go_enter Tryz.func14, Tryz.ntmps14
  go_wp2_with fail
  generalize w.alloc (.cells #[.string ⟨#[112, 105, 99, 107]⟩, .string ⟨#[114, 101, 119, 111, 114, 100]⟩, .string ⟨#[101, 100, 105, 116]⟩, .string ⟨#[115, 113, 117, 97, 115, 104]⟩, .string ⟨#[102, 105, 120, 117, 112]⟩, .string ⟨#[100, 114, 111, 112]⟩] 9) = W at *
  obtain ⟨g, hg⟩ : ∃ g, g = w.heap.size := ⟨_, rfl⟩
  rw [← hg] at HC ⊢
  clear hg
  go_loopw [4] (fun s4 wr => ∃ k : Nat, k ≤ 6 ∧ s4 = .int .i64 k ∧ Hid (∀ j x, j < k → verbL[j]? = some x → x ≠ v) ∧ Hid (wr = W)) (fun s4 _ => 6 - (intOf s4).toNat)
  case atStart => exact ⟨0, Nat.zero_le _, rfl, Lib.hid (fun j x hj => absurd hj (Nat.not_lt_zero _)), Lib.hid rfl⟩
  case round =>
    obtain ⟨k, hk, rfl, HN, HW⟩ := hrel
    have k0 : (0 : Int) ≤ (k : Int) := Int.natCast_nonneg _
    by_cases hlt : k < 6
    · have hli : (k : Int) < 6 := by omega
      obtain ⟨x, hx⟩ : ∃ x, verbL[k]? = some x := ⟨_, List.getElem?_eq_getElem (show k < verbL.length from hlt)⟩
      have c0 : wr.cell? ⟨g, k, none⟩ = some (.string x) := by rw [HW.out]; exact HC.out k x hx
      by_cases hv : x = v
      · subst hv
        have HV := Lib.hid (verb_known x (List.mem_of_getElem? hx))
        clear hx
        go_wp2
        go_ret
        exact ⟨k, rfl, by rw [HV.out]; simp, by omega, by rw [HW.out]; exact HB.out⟩
      · have e1 : (x.toList == v.toList) = false := by
          rw [beq_eq_false_iff_ne]
          exact fun e => hv (bytesB_eq (by rw [← ByteArray.toList_eq, e, ByteArray.toList_eq]))
        have HN2 := Lib.hid (show ∀ j y, j < k + 1 → verbL[j]? = some y → y ≠ v from fun j y hj hy => by
          by_cases h : j < k
          · exact HN.out j y h hy
          · obtain rfl : j = k := by omega
            rw [hx] at hy
            cases hy
            exact hv)
        clear hx
        go_wp2
        go_roundw
        case rel => exact ⟨k + 1, by omega, by go_num, HN2, HW⟩
        case measure => simp [intOf]; omega
    · obtain rfl : k = 6 := by omega
      have HV := Lib.hid (show knownV v = false from by
        cases hv : knownV v with
        | false => rfl
        | true =>
          obtain ⟨j, hj, he⟩ := List.getElem_of_mem (known_verb hv)
          exact absurd he (HN.out j _ hj (List.getElem?_eq_getElem hj)))
      go_wp2
      go_ret
      exact ⟨-1, rfl, by rw [HV.out]; rfl, by omega, by rw [HW.out]; exact HB.out⟩
end Go.Proofs.YtanjcjnkppnhcaaGreatDoor
