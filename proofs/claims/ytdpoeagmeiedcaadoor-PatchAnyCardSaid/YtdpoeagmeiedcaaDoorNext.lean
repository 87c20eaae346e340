/-
  The contract of the grid's step: which edit comes next.
-/
import Derived.Test.YtdpoeagmeiedcaaDoorGrid
namespace Go.Proofs.YtdpoeagmeiedcaaDoor
open Go.RowKit

set_option maxHeartbeats 1000000 in
theorem next_end_a (ga gb gr na nb R j : Nat) (w : World) :
    Calls Tryd.prog 39 #[grid ga gb gr na nb R, .int .i64 na, .int .i64 j] w fun e w' => e = .returned (.int .i64 3) ∧ Below w.heap.size w w' := by
  have hb0 : Below w.heap.size w (w.alloc (.cells #[.slice (some ⟨ga, 0, none⟩) na na, .slice (some ⟨gb, 0, none⟩) nb nb, .slice (some ⟨gr, 0, none⟩) R R] 85)) := (Below.refl _ _).alloc (Nat.le_refl _) _
  go_enter Tryd.func39, Tryd.ntmps39
  go_wp2
  go_ret
  exact ⟨rfl, hb0⟩

set_option maxHeartbeats 1000000 in
theorem next_end_b (ga gb gr na nb R i : Nat) (hi : i < na) (w : World) :
    Calls Tryd.prog 39 #[grid ga gb gr na nb R, .int .i64 i, .int .i64 nb] w fun e w' => e = .returned (.int .i64 2) ∧ Below w.heap.size w w' := by
  have hb0 : Below w.heap.size w (w.alloc (.cells #[.slice (some ⟨ga, 0, none⟩) na na, .slice (some ⟨gb, 0, none⟩) nb nb, .slice (some ⟨gr, 0, none⟩) R R] 85)) := (Below.refl _ _).alloc (Nat.le_refl _) _
  go_enter Tryd.func39, Tryd.ntmps39
  go_wp2
  go_ret
  exact ⟨rfl, hb0⟩

set_option maxHeartbeats 1000000 in
theorem next_keep (ga gb gr na nb R i j : Nat) (x y : Int) (hi : i < na) (hj : j < nb) (hxy : x = y) (w : World) (ha : w.cell? ⟨ga, i, none⟩ = some (.int .i64 x)) (hb : w.cell? ⟨gb, j, none⟩ = some (.int .i64 y)) :
    Calls Tryd.prog 39 #[grid ga gb gr na nb R, .int .i64 i, .int .i64 j] w fun e w' => e = .returned (.int .i64 1) ∧ Below w.heap.size w w' := by
  subst hxy
  have hb0 : Below w.heap.size w (w.alloc (.cells #[.slice (some ⟨ga, 0, none⟩) na na, .slice (some ⟨gb, 0, none⟩) nb nb, .slice (some ⟨gr, 0, none⟩) R R] 85)) := (Below.refl _ _).alloc (Nat.le_refl _) _
  have la := World.block_lt_of_cell? w _ ha
  have lb := World.block_lt_of_cell? w _ hb
  have i0 : (0 : Int) ≤ (i : Int) := Int.natCast_nonneg _
  have i1 : (i : Int) < (na : Int) := by omega
  have j0 : (0 : Int) ≤ (j : Int) := Int.natCast_nonneg _
  have j1 : (j : Int) < (nb : Int) := by omega
  go_enter Tryd.func39, Tryd.ntmps39
  go_wp2_with fail
  go_quiet (fail)
  go_wp2
  go_ret
  exact ⟨rfl, below_drewN hb0 _⟩

end Go.Proofs.YtdpoeagmeiedcaaDoor
