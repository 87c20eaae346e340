/-
  rectolaw21.Same: steps that are the document's.
-/
import Derived.Test.YtanjcjnkppnhcaaDoorTdI
namespace Go.Proofs.YtanjcjnkppnhcaaDoor
open Go Go.RowKit

set_option maxRecDepth 100000 in
set_option maxHeartbeats 4000000 in
theorem same_yes (w : World) (va vb : Value) (l : List Fl) (ha : Reads 3 cF w va l) (hb : Reads 3 cF w vb l) :
    Calls Tryd.prog 8 #[va, vb] w fun e w' => e = .returned (.bool true) ∧ Below w.heap.size w w' := by
  obtain ⟨A1, c1, rfl⟩ := ha.form
  obtain ⟨A2, c2, rfl⟩ := hb.form
  have HLN := ha.len
  have hlm : (l.length : Int) ≤ 9223372036854775807 := by have := HLN.2; unfold maxLen at this; omega
  have HA := Lib.hid fun W (hW : Below w.heap.size w W) => ha.below hW
  have HB2 := Lib.hid fun W (hW : Below w.heap.size w W) => hb.below hW
  have l0 : (0 : Int) ≤ (l.length : Int) := Int.natCast_nonneg _
  clear ha hb HLN
  go_enter Tryd.func8, Tryd.ntmps8
  go_wp2_with fail
  go_loopw [5] (fun s5 wr => ∃ k : Nat, k ≤ l.length ∧ s5 = .int .i64 k ∧ Hid (Below w.heap.size w wr)) (fun s5 _ => l.length - (intOf s5).toNat)
  case atStart => exact ⟨0, Nat.zero_le _, rfl, Lib.hid (Below.refl _ _)⟩
  case round =>
    obtain ⟨k, hk, rfl, HB⟩ := hrel
    have k0 : (0 : Int) ≤ (k : Int) := Int.natCast_nonneg _
    by_cases hlt : k < l.length
    · obtain ⟨x, hx⟩ : ∃ x, l[k]? = some x := ⟨_, List.getElem?_eq_getElem hlt⟩
      have hki : (k : Int) < (l.length : Int) := by omega
      obtain ⟨ad, rfl, c0, c1', c2'⟩ := Fils.at_ (HA.out wr HB.out) hx
      obtain ⟨ae, rfl, d0, d1, d2⟩ := Fils.at_ (HB2.out wr HB.out) hx
      obtain ⟨v, c, t⟩ := x
      dsimp only at c0 c1' c2' d0 d1 d2
      have HLT := Lib.hid hlt
      clear hx hlt hk
      go_wp2_with fail
      go_quiet (fail)
      have HB3 := Lib.hid (below_drewN HB.out nq)
      go_wp2_with fail
      go_roundw
      case rel => exact ⟨k + 1, by have := HLT.out; omega, by go_num, HB3⟩
      case measure => have := HLT.out; simp [intOf]; omega
    · obtain rfl : k = l.length := by omega
      go_wp2
      go_ret
      exact ⟨rfl, HB.out⟩
end Go.Proofs.YtanjcjnkppnhcaaDoor
