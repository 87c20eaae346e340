/-
  The contract of the grid step where neither text is at its end and the lines differ.
-/
import Derived.Test.YtdpoeagmeiedcaaDoorGrid
namespace Go.Proofs.YtdpoeagmeiedcaaDoor
open Go.RowKit

set_option maxHeartbeats 2000000 in
theorem next_else (ga gb gr na nb R i j : Nat) (x y c1 c2 : Int) (hi : i < na) (hj : j < nb) (hna : na ≤ 299) (hnb : nb ≤ 299) (hxy : (x == y) = false) (hp1 : pl nb (i + 1) j < R) (hp2 : pl nb i (j + 1) < R) (w : World)
    (ha : w.cell? ⟨ga, i, none⟩ = some (.int .i64 x)) (hb : w.cell? ⟨gb, j, none⟩ = some (.int .i64 y))
    (h1 : w.cell? ⟨gr, pl nb (i + 1) j, none⟩ = some (.int .u16 c1)) (h2 : w.cell? ⟨gr, pl nb i (j + 1), none⟩ = some (.int .u16 c2)) :
    Calls Tryd.prog 39 #[grid ga gb gr na nb R, .int .i64 i, .int .i64 j] w fun e w' => e = .returned (.int .i64 (if c2 ≤ c1 then 2 else 3)) ∧ Below w.heap.size w w' := by
  have L1 := fun W (hW : W.cell? ⟨gr, pl nb (i + 1) j, none⟩ = some (.int .u16 c1)) => longest_any ga gb gr na nb R (i + 1) j c1 (by omega) (by omega) (by omega) hp1 W hW
  have L2 := fun W (hW : W.cell? ⟨gr, pl nb i (j + 1), none⟩ = some (.int .u16 c2)) => longest_any ga gb gr na nb R i (j + 1) c2 (by omega) (by omega) (by omega) hp2 W hW
  rw [show ((i + 1 : Nat) : Int) = (i : Int) + 1 from by omega] at L1
  rw [show ((j + 1 : Nat) : Int) = (j : Int) + 1 from by omega] at L2
  have H1 := Lib.hid L1
  have H2 := Lib.hid L2
  clear L1 L2
  generalize pl nb (i + 1) j = p1 at *
  generalize pl nb i (j + 1) = p2 at *
  have hb0 : Below w.heap.size w (w.alloc (.cells #[.slice (some ⟨ga, 0, none⟩) na na, .slice (some ⟨gb, 0, none⟩) nb nb, .slice (some ⟨gr, 0, none⟩) R R] 85)) := (Below.refl _ _).alloc (Nat.le_refl _) _
  have la := World.block_lt_of_cell? w _ ha
  have lb := World.block_lt_of_cell? w _ hb
  have lr := World.block_lt_of_cell? w _ h1
  have i0 : (0 : Int) ≤ (i : Int) := Int.natCast_nonneg _
  have i1 : (i : Int) < (na : Int) := by omega
  have j0 : (0 : Int) ≤ (j : Int) := Int.natCast_nonneg _
  have j1 : (j : Int) < (nb : Int) := by omega
  go_enter Tryd.func39, Tryd.ntmps39
  go_wp2_with fail
  go_quiet (fail)
  go_wp2_with fail
  have T0 := (Three.new w (.slice (some ⟨ga, 0, none⟩) na na) (.slice (some ⟨gb, 0, none⟩) nb nb) (.slice (some ⟨gr, 0, none⟩) R R) 85)
  generalize hW : (w.alloc (.cells #[.slice (some ⟨ga, 0, none⟩) na na, .slice (some ⟨gb, 0, none⟩) nb nb, .slice (some ⟨gr, 0, none⟩) R R] 85)) = W0 at *
  clear hW
  have T1 : Three (W0.drewN nq) w.heap.size (.slice (some ⟨ga, 0, none⟩) na na) (.slice (some ⟨gb, 0, none⟩) nb nb) (.slice (some ⟨gr, 0, none⟩) R R) := ⟨T0.c0, T0.c1, T0.c2, T0.z0, T0.z1, T0.z2, T0.lt⟩
  have B1 : Below w.heap.size w (W0.drewN nq) := below_drewN hb0 nq
  clear T0 hb0
  generalize W0.drewN nq = W1 at *
  have q1 := (B1.drew.cell (p := ⟨gr, p1, none⟩) lr).trans h1
  have q2 := (B1.drew.cell (p := ⟨gr, p2, none⟩) lr).trans h2
  have T1d : Three W1.drew w.heap.size (.slice (some ⟨ga, 0, none⟩) na na) (.slice (some ⟨gb, 0, none⟩) nb nb) (.slice (some ⟨gr, 0, none⟩) R R) := ⟨T1.c0, T1.c1, T1.c2, T1.z0, T1.z1, T1.z2, T1.lt⟩
  have S0 : W1.drew.cell? ⟨w.heap.size, 0, none⟩ = some (.slice (some ⟨ga, 0, none⟩) na na) ∧ W1.drew.cell? ⟨w.heap.size, 1, none⟩ = some (.slice (some ⟨gb, 0, none⟩) nb nb) ∧ W1.drew.cell? ⟨w.heap.size, 2, none⟩ = some (.slice (some ⟨gr, 0, none⟩) R R) ∧ W1.drew.cell? ⟨gr, p1, none⟩ = some (.int .u16 c1) ∧ W1.drew.cell? ⟨gr, p2, none⟩ = some (.int .u16 c2) := ⟨T1.c0, T1.c1, T1.c2, q1, q2⟩
  have B1d := B1.drew
  clear B1
  clear i0 i1 j0 j1 ha hb la lb
  have hsi : IntKind.i64.wrap ((i : Int) + 1) = (i : Int) + 1 := IntWalk.i64_in _ (by omega)
  have hsj : IntKind.i64.wrap ((j : Int) + 1) = (j : Int) + 1 := IntWalk.i64_in _ (by omega)
  clear hi hj hna hnb
  go_region_held3 (fun w' => w'.cell? ⟨w.heap.size, 0, none⟩ = some (.slice (some ⟨ga, 0, none⟩) na na) ∧ w'.cell? ⟨w.heap.size, 1, none⟩ = some (.slice (some ⟨gb, 0, none⟩) nb nb) ∧ w'.cell? ⟨w.heap.size, 2, none⟩ = some (.slice (some ⟨gr, 0, none⟩) R R) ∧ w'.cell? ⟨gr, p1, none⟩ = some (.int .u16 c1) ∧ w'.cell? ⟨gr, p2, none⟩ = some (.int .u16 c2)) (first | exact S2 | exact S1 | exact S0)
    (first
      | (go_at_call 42; refine (H2.out w1 q3).mono ?_; rintro e w2 ⟨rfl, hb2⟩; have T3 := T2.below hb2; have B3 := B2.trans (hb2.mono B2.size); have S2 : w2.cell? ⟨w.heap.size, 0, none⟩ = some (.slice (some ⟨ga, 0, none⟩) na na) ∧ w2.cell? ⟨w.heap.size, 1, none⟩ = some (.slice (some ⟨gb, 0, none⟩) nb nb) ∧ w2.cell? ⟨w.heap.size, 2, none⟩ = some (.slice (some ⟨gr, 0, none⟩) R R) ∧ w2.cell? ⟨gr, p1, none⟩ = some (.int .u16 c1) ∧ w2.cell? ⟨gr, p2, none⟩ = some (.int .u16 c2) := ⟨T3.c0, T3.c1, T3.c2, (B3.cell (p := ⟨gr, p1, none⟩) lr).trans h1, (B3.cell (p := ⟨gr, p2, none⟩) lr).trans h2⟩)
      | (go_at_call 42; refine (H1.out W1.drew q1).mono ?_; rintro e w1 ⟨rfl, hb1⟩; have T2 := T1d.below hb1; have B2 := B1d.trans (hb1.mono B1d.size); have q3 := (B2.cell (p := ⟨gr, p2, none⟩) lr).trans h2; have S1 : w1.cell? ⟨w.heap.size, 0, none⟩ = some (.slice (some ⟨ga, 0, none⟩) na na) ∧ w1.cell? ⟨w.heap.size, 1, none⟩ = some (.slice (some ⟨gb, 0, none⟩) nb nb) ∧ w1.cell? ⟨w.heap.size, 2, none⟩ = some (.slice (some ⟨gr, 0, none⟩) R R) ∧ w1.cell? ⟨gr, p1, none⟩ = some (.int .u16 c1) ∧ w1.cell? ⟨gr, p2, none⟩ = some (.int .u16 c2) := ⟨T2.c0, T2.c1, T2.c2, (B2.cell (p := ⟨gr, p1, none⟩) lr).trans h1, q3⟩))
  all_goals clear hsi hsj
  all_goals by_cases hcc : c2 ≤ c1
  all_goals go_wp2
  all_goals go_ret
  all_goals (first | exact ⟨rfl, B3⟩ | exact ⟨by rw [if_pos hcc], B3⟩ | exact ⟨by rw [if_neg (by omega)], B3⟩)

end Go.Proofs.YtdpoeagmeiedcaaDoor
