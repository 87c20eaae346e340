/-
  The contracts of grid.at, grid.longest, grid.next.
-/
import Derived.Test.YtdpoeagmeiedcaaDoorNumbered
import Derived.Deep.RegionHeld3
namespace Go.Proofs.YtdpoeagmeiedcaaDoor
open Go.RowKit

/-- The place of (i, j) in the rows. -/
def pl (nb i j : Nat) : Nat := i * (nb + 1) + j

theorem pl_bound {nb i j : Nat} (h : nb ≤ 300) (hi : i ≤ 300) (hj : j ≤ 300) : pl nb i j ≤ 100000 := by
  unfold pl
  have : i * (nb + 1) ≤ 300 * 301 := Nat.mul_le_mul hi (by omega)
  omega
theorem mul_int (nb i : Nat) : (i : Int) * ((nb : Int) + 1) = ((i * (nb + 1) : Nat) : Int) := by
  rw [Int.natCast_mul]; rfl

set_option maxHeartbeats 1000000 in
theorem at_any (sa sr : Value) (B : Option Addr) (nb cb i j : Nat) (h : nb ≤ 300) (hi : i ≤ 300) (hj : j ≤ 300) (w : World) :
    Calls Tryd.prog 72 #[.agg #[sa, .slice B nb cb, sr], .int .i64 i, .int .i64 j] w fun e w' => e = .returned (.int .i64 (pl nb i j : Nat)) ∧ Below w.heap.size w w' := by
  have hp := pl_bound h hi hj
  have hm := mul_int nb i
  have h1 : IntKind.i64.wrap ((i : Int) * ((nb : Int) + 1)) = ((i * (nb + 1) : Nat) : Int) := by
    rw [hm, IntKind.wrap_i64]; unfold pl at hp; omega
  have h2 : IntKind.i64.wrap (((i * (nb + 1) : Nat) : Int) + (j : Int)) = ((pl nb i j : Nat) : Int) := by
    rw [IntKind.wrap_i64]; unfold pl at *; omega
  clear hm
  go_enter Tryd.func72, Tryd.ntmps72
  go_wp2
  go_ret
  refine ⟨?_, (Below.refl _ _).alloc (Nat.le_refl _) _⟩
  have h3 : wrap64 ((i : Int) * ((nb : Int) + 1) + (j : Int)) = ((pl nb i j : Nat) : Int) := by
    have := mul_int nb i
    rw [this]; unfold wrap64 pl at *; omega
  exact congrArg (fun z : Int => Ending.returned (.int .i64 z)) h3

/-- A block of three cells that the call has laid, in a later world. -/
structure Three (w : World) (b : Nat) (x y z : Value) : Prop where
  c0 : w.cell? ⟨b, 0, none⟩ = some x
  c1 : w.cell? ⟨b, 1, none⟩ = some y
  c2 : w.cell? ⟨b, 2, none⟩ = some z
  z0 : w.frozen? ⟨b, 0, none⟩ = false
  z1 : w.frozen? ⟨b, 1, none⟩ = false
  z2 : w.frozen? ⟨b, 2, none⟩ = false
  lt : b < w.heap.size

theorem Three.new (w : World) (x y z : Value) (t : TypeId) : Three (w.alloc (.cells #[x, y, z] t)) w.heap.size x y z := by
  have hh := heap_alloc_new w (.cells #[x, y, z] t)
  exact ⟨cell_of_row _ _ 0 _ t (0, 0) hh, cell_of_row _ _ 1 _ t (0, 0) hh, cell_of_row _ _ 2 _ t (0, 0) hh, by unfold World.frozen?; rw [hh]; rfl, by unfold World.frozen?; rw [hh]; rfl, by unfold World.frozen?; rw [hh]; rfl, by simp⟩

theorem Three.below {w w' : World} {b : Nat} {x y z : Value} (h : Three w b x y z) (hb : Below w.heap.size w w') : Three w' b x y z :=
  ⟨(hb.cell (p := ⟨b, 0, none⟩) h.lt).trans h.c0, (hb.cell (p := ⟨b, 1, none⟩) h.lt).trans h.c1, (hb.cell (p := ⟨b, 2, none⟩) h.lt).trans h.c2, (hb.frozen (p := ⟨b, 0, none⟩) h.lt).trans h.z0, (hb.frozen (p := ⟨b, 1, none⟩) h.lt).trans h.z1, (hb.frozen (p := ⟨b, 2, none⟩) h.lt).trans h.z2, Nat.lt_of_lt_of_le h.lt hb.size⟩

/-- The grid: numbers of the lines, and the rows, each where it lies. -/
abbrev grid (ga gb gr na nb R : Nat) : Value := .agg #[.slice (some ⟨ga, 0, none⟩) na na, .slice (some ⟨gb, 0, none⟩) nb nb, .slice (some ⟨gr, 0, none⟩) R R]

set_option maxHeartbeats 1000000 in
theorem longest_any (ga gb gr na nb R i j : Nat) (c : Int) (h : nb ≤ 300) (hi : i ≤ 300) (hj : j ≤ 300) (hp : pl nb i j < R) (w : World) (hc : w.cell? ⟨gr, pl nb i j, none⟩ = some (.int .u16 c)) :
    Calls Tryd.prog 42 #[grid ga gb gr na nb R, .int .i64 i, .int .i64 j] w fun e w' => e = .returned (.int .u16 c) ∧ Below w.heap.size w w' := by
  have A := fun W => at_any (.slice (some ⟨ga, 0, none⟩) na na) (.slice (some ⟨gr, 0, none⟩) R R) (some ⟨gb, 0, none⟩) nb nb i j h hi hj W
  have HA := Lib.hid A
  clear A
  have hlt := World.block_lt_of_cell? w _ hc
  have hb0 : Below w.heap.size w (w.alloc (.cells #[.slice (some ⟨ga, 0, none⟩) na na, .slice (some ⟨gb, 0, none⟩) nb nb, .slice (some ⟨gr, 0, none⟩) R R] 85)) := (Below.refl _ _).alloc (Nat.le_refl _) _
  generalize pl nb i j = p at *
  have hi0 : (0 : Int) ≤ (p : Int) := Int.natCast_nonneg _
  have hi1 : (p : Int) < (R : Int) := by omega
  go_enter Tryd.func42, Tryd.ntmps42
  go_wp2_with fail
  have T0 := Three.new w (.slice (some ⟨ga, 0, none⟩) na na) (.slice (some ⟨gb, 0, none⟩) nb nb) (.slice (some ⟨gr, 0, none⟩) R R) 85
  generalize hW : w.alloc (.cells #[.slice (some ⟨ga, 0, none⟩) na na, .slice (some ⟨gb, 0, none⟩) nb nb, .slice (some ⟨gr, 0, none⟩) R R] 85) = W0 at *
  clear hW
  have hq := (hb0.cell (p := ⟨gr, p, none⟩) hlt).trans hc
  have T0d : Three W0.drew w.heap.size (.slice (some ⟨ga, 0, none⟩) na na) (.slice (some ⟨gb, 0, none⟩) nb nb) (.slice (some ⟨gr, 0, none⟩) R R) := ⟨T0.c0, T0.c1, T0.c2, T0.z0, T0.z1, T0.z2, T0.lt⟩
  have S0 : W0.drew.cell? ⟨w.heap.size, 0, none⟩ = some (.slice (some ⟨ga, 0, none⟩) na na) ∧ W0.drew.cell? ⟨w.heap.size, 1, none⟩ = some (.slice (some ⟨gb, 0, none⟩) nb nb) ∧ W0.drew.cell? ⟨w.heap.size, 2, none⟩ = some (.slice (some ⟨gr, 0, none⟩) R R) ∧ W0.drew.cell? ⟨gr, p, none⟩ = some (.int .u16 c) := ⟨T0.c0, T0.c1, T0.c2, hq⟩
  have hbd := hb0.drew
  have hlt2 : gr < W0.drew.heap.size := Nat.lt_of_lt_of_le hlt hbd.size
  have H37 := Lib.hid (HA.out W0.drew)
  clear hb0 HA
  go_region_held3 (fun w' => w'.cell? ⟨w.heap.size, 0, none⟩ = some (.slice (some ⟨ga, 0, none⟩) na na) ∧ w'.cell? ⟨w.heap.size, 1, none⟩ = some (.slice (some ⟨gb, 0, none⟩) nb nb) ∧ w'.cell? ⟨w.heap.size, 2, none⟩ = some (.slice (some ⟨gr, 0, none⟩) R R) ∧ w'.cell? ⟨gr, p, none⟩ = some (.int .u16 c)) (first | exact S0 | exact S1 | go_keep)
    (first | (go_at_call 72; refine H37.out.mono ?_; rintro e w1 ⟨rfl, hb1⟩; have T1 := T0d.below hb1; have hb2 := hbd.trans (hb1.mono hbd.size); have S1 : w1.cell? ⟨w.heap.size, 0, none⟩ = some (.slice (some ⟨ga, 0, none⟩) na na) ∧ w1.cell? ⟨w.heap.size, 1, none⟩ = some (.slice (some ⟨gb, 0, none⟩) nb nb) ∧ w1.cell? ⟨w.heap.size, 2, none⟩ = some (.slice (some ⟨gr, 0, none⟩) R R) ∧ w1.cell? ⟨gr, p, none⟩ = some (.int .u16 c) := ⟨T1.c0, T1.c1, T1.c2, (hb1.cell (p := ⟨gr, p, none⟩) hlt2).trans hq⟩))
  all_goals go_wp2
  all_goals go_ret
  all_goals exact ⟨rfl, hb2⟩

end Go.Proofs.YtdpoeagmeiedcaaDoor
