/-
  The contract of diff.check.
-/
import Derived.Test.YtdpoeagmeiedcaaDoorMeasure
namespace Go.Proofs.YtdpoeagmeiedcaaDoor
open Go.RowKit

set_option maxHeartbeats 1000000 in
theorem check_good (b n c m d : Nat) (A B : Option Addr) (hn : n ≤ 256) (hm : m ≤ 256) (w : World) (h0 : w.cell? ⟨b, 0, none⟩ = some (.slice A n c)) (h1 : w.cell? ⟨b, 1, none⟩ = some (.slice B m d)) :
    Calls Tryd.prog 37 #[.slice (some ⟨b, 0, none⟩) 2 2] w fun e w' => e = .returned Value.nilIface ∧ w = w' := by
  go_enter Tryd.func37, Tryd.ntmps37
  go_wp2
  go_loop [7] (fun i => ∃ k : Nat, k ≤ 2 ∧ i = .int .i64 k) (fun i => 2 - (intOf i).toNat)
  case atStart => exact ⟨0, by omega, rfl⟩
  case round =>
    obtain ⟨k, hk, rfl⟩ := hrel
    by_cases e0 : k = 0
    · subst e0
      go_wp2
      go_round
      case rel => exact ⟨1, by omega, rfl⟩
      case measure => simp [intOf]
    · by_cases e1 : k = 1
      · subst e1
        go_wp2
        go_round
        case rel => exact ⟨2, by omega, rfl⟩
        case measure => simp [intOf]
      · obtain rfl : k = 2 := by omega
        go_wp2
        go_ret
        exact ⟨rfl, rfl⟩

/-- The refusal: a fault of the part lines at k, of the Errno 4, in a block of its own. -/
def Refused (k : Nat) (w : World) (e : Ending) (w' : World) : Prop :=
  ∃ g : Nat, e = .returned (.iface 98 (.pointer (some ⟨g, 0, none⟩))) ∧ Three w' g (.string ⟨#[108, 105, 110, 101, 115]⟩) (.int .i64 (k : Int)) (.iface 97 (.int .i64 4)) ∧ Below w.heap.size w w'

set_option maxHeartbeats 1000000 in
theorem check_first (b n c : Nat) (A : Option Addr) (hn : 256 < n) (w : World) (h0 : w.cell? ⟨b, 0, none⟩ = some (.slice A n c)) :
    Calls Tryd.prog 37 #[.slice (some ⟨b, 0, none⟩) 2 2] w (Refused 0 w) := by
  go_enter Tryd.func37, Tryd.ntmps37
  go_wp2
  go_loop [7] (fun i => i = .int .i64 0) (fun i => 0)
  case atStart => rfl
  case round =>
    obtain rfl := hrel
    go_wp2
    go_ret
    exact ⟨w.heap.size, rfl, Three.new w _ _ _ 102, (Below.refl _ _).alloc (Nat.le_refl _) _⟩

set_option maxHeartbeats 1000000 in
theorem check_second (b n c m d : Nat) (A B : Option Addr) (hn : n ≤ 256) (hm : 256 < m) (w : World) (h0 : w.cell? ⟨b, 0, none⟩ = some (.slice A n c)) (h1 : w.cell? ⟨b, 1, none⟩ = some (.slice B m d)) :
    Calls Tryd.prog 37 #[.slice (some ⟨b, 0, none⟩) 2 2] w (Refused 1 w) := by
  go_enter Tryd.func37, Tryd.ntmps37
  go_wp2
  go_loop [7] (fun i => ∃ k : Nat, k ≤ 1 ∧ i = .int .i64 k) (fun i => 2 - (intOf i).toNat)
  case atStart => exact ⟨0, by omega, rfl⟩
  case round =>
    obtain ⟨k, hk, rfl⟩ := hrel
    by_cases e0 : k = 0
    · subst e0
      go_wp2
      go_round
      case rel => exact ⟨1, by omega, rfl⟩
      case measure => simp [intOf]
    · obtain rfl : k = 1 := by omega
      go_wp2
      go_ret
      exact ⟨w.heap.size, rfl, Three.new w _ _ _ 102, (Below.refl _ _).alloc (Nat.le_refl _) _⟩

end Go.Proofs.YtdpoeagmeiedcaaDoor
