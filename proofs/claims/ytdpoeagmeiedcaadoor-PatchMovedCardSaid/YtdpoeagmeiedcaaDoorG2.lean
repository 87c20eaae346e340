/-
  The contract of diff.check.
  The contract of the grid's step: which edit comes next.
  The contract of the grid step where neither text is at its end and the lines differ.
  diff.Lines: the edits.
  Three texts cut into pieces, by plain lists.
  What the cut of three texts is, by plain lists: the parts, the sides, turned.
  The cut of three texts: where a side is as it was; turned; two changes far from each other.
  The cutter of three texts: what it is in memory; the contracts of its readers.
  The cutter's other readers: ended, nextKept; places; Clone of any slice of texts; whole.
  places: of each line of the one text where it is kept in the other; Clone of any slice of texts; whole.
  DERIVED: THE SHELF's CONTRACTS AT THIS DUMP, IN PLAIN WORDS (tools/lay-plain.mjs out of 'TrydShelf.lean', which tools/lay-shelf.mjs wrote): THE SAME DECLARATIONS UNDER THE SAME NAMES: 'import', 'namespace', 'open', 'def', 'theorem' AND NOTHING ELSE: no command of the shelf's: FOR A HAND-IN. Each laying: the table of numbers ('.._ren') and one theorem, a field a fact of the dump's own or the kernel's comparison; each contract: ONE APPLICATION.
  More of lines: Whole, Equal, Join.
-/
import Derived.Test.YtdpoeagmeiedcaaDoorG1
import Derived.Deep.AppendLies
import Derived.Shelf.Strings.Builder1
import Derived.Shelf.Strings.Builder2
import Derived.Shelf.Strings.OnBuilder
import Derived.Shelf.Strings.BuilderF
import Derived.Shelf.Strings.BuilderK
import Derived.Shelf.Strconv.Itoa0
import Derived.Shelf.Strconv.Itoa1
import Derived.Shelf.LaysM
import Derived.Shelf.Strconv.Itoa2
import Derived.Shelf.Strconv.Itoa3
import Derived.Shelf.Strings.Prefix
import Derived.Shelf.Slices.Equal
import Derived.Ground.Names2Prog
import Derived.Shelf.Slices.Clone
import Derived.Shelf.Slices.Empties2
import Derived.Test.YtdpoeagmeiedcaaDoorProg
import Derived.BigQuiet
import Derived.Deep.QuietTactic
import Derived.OpenShut
namespace Go.Proofs.YtdpoeagmeiedcaaDoor
open Go.RowKit

set_option maxHeartbeats 1000000 in
theorem check_good (b n c m d : Nat) (A B : Option Addr) (hn : n ≤ 256) (hm : m ≤ 256) (w : World) (h0 : w.cell? ⟨b, 0, none⟩ = some (.slice A n c)) (h1 : w.cell? ⟨b, 1, none⟩ = some (.slice B m d)) :
    Calls Tryd.prog 37 #[.slice (some ⟨b, 0, none⟩) 2 2] w fun e w' => e = .returned Value.nilIface ∧ w = w' := by
  go_enter Tryd.func37, Tryd.ntmps37
  go_wp2
  go_loop [7] (fun i => ∃ k : Nat, k ≤ 2 ∧ i = .int .i64 k) (fun i => 2 - (intOf i).toNat)
  case atStart => exact ⟨0, by omega, rfl⟩
  case round =>
    obtain ⟨k, hk, rfl⟩ := hrel
    by_cases e0 : k = 0
    · subst e0
      go_wp2
      go_round
      case rel => exact ⟨1, by omega, rfl⟩
      case measure => simp [intOf]
    · by_cases e1 : k = 1
      · subst e1
        go_wp2
        go_round
        case rel => exact ⟨2, by omega, rfl⟩
        case measure => simp [intOf]
      · obtain rfl : k = 2 := by omega
        go_wp2
        go_ret
        exact ⟨rfl, rfl⟩

/-- The refusal: a fault of the part lines at k, of the Errno 4, in a block of its own. -/
def Refused (k : Nat) (w : World) (e : Ending) (w' : World) : Prop :=
  ∃ g : Nat, e = .returned (.iface 98 (.pointer (some ⟨g, 0, none⟩))) ∧ Three w' g (.string ⟨#[108, 105, 110, 101, 115]⟩) (.int .i64 (k : Int)) (.iface 97 (.int .i64 4)) ∧ Below w.heap.size w w'

set_option maxHeartbeats 1000000 in
theorem check_first (b n c : Nat) (A : Option Addr) (hn : 256 < n) (w : World) (h0 : w.cell? ⟨b, 0, none⟩ = some (.slice A n c)) :
    Calls Tryd.prog 37 #[.slice (some ⟨b, 0, none⟩) 2 2] w (Refused 0 w) := by
  go_enter Tryd.func37, Tryd.ntmps37
  go_wp2
  go_loop [7] (fun i => i = .int .i64 0) (fun i => 0)
  case atStart => rfl
  case round =>
    obtain rfl := hrel
    go_wp2
    go_ret
    exact ⟨w.heap.size, rfl, Three.new w _ _ _ 102, (Below.refl _ _).alloc (Nat.le_refl _) _⟩

set_option maxHeartbeats 1000000 in
theorem check_second (b n c m d : Nat) (A B : Option Addr) (hn : n ≤ 256) (hm : 256 < m) (w : World) (h0 : w.cell? ⟨b, 0, none⟩ = some (.slice A n c)) (h1 : w.cell? ⟨b, 1, none⟩ = some (.slice B m d)) :
    Calls Tryd.prog 37 #[.slice (some ⟨b, 0, none⟩) 2 2] w (Refused 1 w) := by
  go_enter Tryd.func37, Tryd.ntmps37
  go_wp2
  go_loop [7] (fun i => ∃ k : Nat, k ≤ 1 ∧ i = .int .i64 k) (fun i => 2 - (intOf i).toNat)
  case atStart => exact ⟨0, by omega, rfl⟩
  case round =>
    obtain ⟨k, hk, rfl⟩ := hrel
    by_cases e0 : k = 0
    · subst e0
      go_wp2
      go_round
      case rel => exact ⟨1, by omega, rfl⟩
      case measure => simp [intOf]
    · obtain rfl : k = 1 := by omega
      go_wp2
      go_ret
      exact ⟨w.heap.size, rfl, Three.new w _ _ _ 102, (Below.refl _ _).alloc (Nat.le_refl _) _⟩

end Go.Proofs.YtdpoeagmeiedcaaDoor
namespace Go.Proofs.YtdpoeagmeiedcaaDoor
open Go.RowKit

set_option maxHeartbeats 1000000 in
theorem next_end_a (ga gb gr na nb R j : Nat) (w : World) :
    Calls Tryd.prog 39 #[grid ga gb gr na nb R, .int .i64 na, .int .i64 j] w fun e w' => e = .returned (.int .i64 3) ∧ Below w.heap.size w w' := by
  have hb0 : Below w.heap.size w (w.alloc (.cells #[.slice (some ⟨ga, 0, none⟩) na na, .slice (some ⟨gb, 0, none⟩) nb nb, .slice (some ⟨gr, 0, none⟩) R R] 85)) := (Below.refl _ _).alloc (Nat.le_refl _) _
  go_enter Tryd.func39, Tryd.ntmps39
  go_wp2
  go_ret
  exact ⟨rfl, hb0⟩

set_option maxHeartbeats 1000000 in
theorem next_end_b (ga gb gr na nb R i : Nat) (hi : i < na) (w : World) :
    Calls Tryd.prog 39 #[grid ga gb gr na nb R, .int .i64 i, .int .i64 nb] w fun e w' => e = .returned (.int .i64 2) ∧ Below w.heap.size w w' := by
  have hb0 : Below w.heap.size w (w.alloc (.cells #[.slice (some ⟨ga, 0, none⟩) na na, .slice (some ⟨gb, 0, none⟩) nb nb, .slice (some ⟨gr, 0, none⟩) R R] 85)) := (Below.refl _ _).alloc (Nat.le_refl _) _
  go_enter Tryd.func39, Tryd.ntmps39
  go_wp2
  go_ret
  exact ⟨rfl, hb0⟩

set_option maxHeartbeats 1000000 in
theorem next_keep (ga gb gr na nb R i j : Nat) (x y : Int) (hi : i < na) (hj : j < nb) (hxy : x = y) (w : World) (ha : w.cell? ⟨ga, i, none⟩ = some (.int .i64 x)) (hb : w.cell? ⟨gb, j, none⟩ = some (.int .i64 y)) :
    Calls Tryd.prog 39 #[grid ga gb gr na nb R, .int .i64 i, .int .i64 j] w fun e w' => e = .returned (.int .i64 1) ∧ Below w.heap.size w w' := by
  subst hxy
  have hb0 : Below w.heap.size w (w.alloc (.cells #[.slice (some ⟨ga, 0, none⟩) na na, .slice (some ⟨gb, 0, none⟩) nb nb, .slice (some ⟨gr, 0, none⟩) R R] 85)) := (Below.refl _ _).alloc (Nat.le_refl _) _
  have la := World.block_lt_of_cell? w _ ha
  have lb := World.block_lt_of_cell? w _ hb
  have i0 : (0 : Int) ≤ (i : Int) := Int.natCast_nonneg _
  have i1 : (i : Int) < (na : Int) := by omega
  have j0 : (0 : Int) ≤ (j : Int) := Int.natCast_nonneg _
  have j1 : (j : Int) < (nb : Int) := by omega
  go_enter Tryd.func39, Tryd.ntmps39
  go_wp2_with fail
  go_quiet (fail)
  go_wp2
  go_ret
  exact ⟨rfl, below_drewN hb0 _⟩

end Go.Proofs.YtdpoeagmeiedcaaDoor
namespace Go.Proofs.YtdpoeagmeiedcaaDoor
open Go.RowKit

set_option maxHeartbeats 2000000 in
theorem next_else (ga gb gr na nb R i j : Nat) (x y c1 c2 : Int) (hi : i < na) (hj : j < nb) (hna : na ≤ 299) (hnb : nb ≤ 299) (hxy : (x == y) = false) (hp1 : pl nb (i + 1) j < R) (hp2 : pl nb i (j + 1) < R) (w : World)
    (ha : w.cell? ⟨ga, i, none⟩ = some (.int .i64 x)) (hb : w.cell? ⟨gb, j, none⟩ = some (.int .i64 y))
    (h1 : w.cell? ⟨gr, pl nb (i + 1) j, none⟩ = some (.int .u16 c1)) (h2 : w.cell? ⟨gr, pl nb i (j + 1), none⟩ = some (.int .u16 c2)) :
    Calls Tryd.prog 39 #[grid ga gb gr na nb R, .int .i64 i, .int .i64 j] w fun e w' => e = .returned (.int .i64 (if c2 ≤ c1 then 2 else 3)) ∧ Below w.heap.size w w' := by
  have L1 := fun W (hW : W.cell? ⟨gr, pl nb (i + 1) j, none⟩ = some (.int .u16 c1)) => longest_any ga gb gr na nb R (i + 1) j c1 (by omega) (by omega) (by omega) hp1 W hW
  have L2 := fun W (hW : W.cell? ⟨gr, pl nb i (j + 1), none⟩ = some (.int .u16 c2)) => longest_any ga gb gr na nb R i (j + 1) c2 (by omega) (by omega) (by omega) hp2 W hW
  rw [show ((i + 1 : Nat) : Int) = (i : Int) + 1 from by omega] at L1
  rw [show ((j + 1 : Nat) : Int) = (j : Int) + 1 from by omega] at L2
  have H1 := Lib.hid L1
  have H2 := Lib.hid L2
  clear L1 L2
  generalize pl nb (i + 1) j = p1 at *
  generalize pl nb i (j + 1) = p2 at *
  have hb0 : Below w.heap.size w (w.alloc (.cells #[.slice (some ⟨ga, 0, none⟩) na na, .slice (some ⟨gb, 0, none⟩) nb nb, .slice (some ⟨gr, 0, none⟩) R R] 85)) := (Below.refl _ _).alloc (Nat.le_refl _) _
  have la := World.block_lt_of_cell? w _ ha
  have lb := World.block_lt_of_cell? w _ hb
  have lr := World.block_lt_of_cell? w _ h1
  have i0 : (0 : Int) ≤ (i : Int) := Int.natCast_nonneg _
  have i1 : (i : Int) < (na : Int) := by omega
  have j0 : (0 : Int) ≤ (j : Int) := Int.natCast_nonneg _
  have j1 : (j : Int) < (nb : Int) := by omega
  go_enter Tryd.func39, Tryd.ntmps39
  go_wp2_with fail
  go_quiet (fail)
  go_wp2_with fail
  have T0 := (Three.new w (.slice (some ⟨ga, 0, none⟩) na na) (.slice (some ⟨gb, 0, none⟩) nb nb) (.slice (some ⟨gr, 0, none⟩) R R) 85)
  generalize hW : (w.alloc (.cells #[.slice (some ⟨ga, 0, none⟩) na na, .slice (some ⟨gb, 0, none⟩) nb nb, .slice (some ⟨gr, 0, none⟩) R R] 85)) = W0 at *
  clear hW
  have T1 : Three (W0.drewN nq) w.heap.size (.slice (some ⟨ga, 0, none⟩) na na) (.slice (some ⟨gb, 0, none⟩) nb nb) (.slice (some ⟨gr, 0, none⟩) R R) := ⟨T0.c0, T0.c1, T0.c2, T0.z0, T0.z1, T0.z2, T0.lt⟩
  have B1 : Below w.heap.size w (W0.drewN nq) := below_drewN hb0 nq
  clear T0 hb0
  generalize W0.drewN nq = W1 at *
  have q1 := (B1.drew.cell (p := ⟨gr, p1, none⟩) lr).trans h1
  have q2 := (B1.drew.cell (p := ⟨gr, p2, none⟩) lr).trans h2
  have T1d : Three W1.drew w.heap.size (.slice (some ⟨ga, 0, none⟩) na na) (.slice (some ⟨gb, 0, none⟩) nb nb) (.slice (some ⟨gr, 0, none⟩) R R) := ⟨T1.c0, T1.c1, T1.c2, T1.z0, T1.z1, T1.z2, T1.lt⟩
  have S0 : W1.drew.cell? ⟨w.heap.size, 0, none⟩ = some (.slice (some ⟨ga, 0, none⟩) na na) ∧ W1.drew.cell? ⟨w.heap.size, 1, none⟩ = some (.slice (some ⟨gb, 0, none⟩) nb nb) ∧ W1.drew.cell? ⟨w.heap.size, 2, none⟩ = some (.slice (some ⟨gr, 0, none⟩) R R) ∧ W1.drew.cell? ⟨gr, p1, none⟩ = some (.int .u16 c1) ∧ W1.drew.cell? ⟨gr, p2, none⟩ = some (.int .u16 c2) := ⟨T1.c0, T1.c1, T1.c2, q1, q2⟩
  have B1d := B1.drew
  clear B1
  clear i0 i1 j0 j1 ha hb la lb
  have hsi : IntKind.i64.wrap ((i : Int) + 1) = (i : Int) + 1 := IntWalk.i64_in _ (by omega)
  have hsj : IntKind.i64.wrap ((j : Int) + 1) = (j : Int) + 1 := IntWalk.i64_in _ (by omega)
  clear hi hj hna hnb
  go_region_held3 (fun w' => w'.cell? ⟨w.heap.size, 0, none⟩ = some (.slice (some ⟨ga, 0, none⟩) na na) ∧ w'.cell? ⟨w.heap.size, 1, none⟩ = some (.slice (some ⟨gb, 0, none⟩) nb nb) ∧ w'.cell? ⟨w.heap.size, 2, none⟩ = some (.slice (some ⟨gr, 0, none⟩) R R) ∧ w'.cell? ⟨gr, p1, none⟩ = some (.int .u16 c1) ∧ w'.cell? ⟨gr, p2, none⟩ = some (.int .u16 c2)) (first | exact S2 | exact S1 | exact S0)
    (first
      | (go_at_call 42; refine (H2.out w1 q3).mono ?_; rintro e w2 ⟨rfl, hb2⟩; have T3 := T2.below hb2; have B3 := B2.trans (hb2.mono B2.size); have S2 : w2.cell? ⟨w.heap.size, 0, none⟩ = some (.slice (some ⟨ga, 0, none⟩) na na) ∧ w2.cell? ⟨w.heap.size, 1, none⟩ = some (.slice (some ⟨gb, 0, none⟩) nb nb) ∧ w2.cell? ⟨w.heap.size, 2, none⟩ = some (.slice (some ⟨gr, 0, none⟩) R R) ∧ w2.cell? ⟨gr, p1, none⟩ = some (.int .u16 c1) ∧ w2.cell? ⟨gr, p2, none⟩ = some (.int .u16 c2) := ⟨T3.c0, T3.c1, T3.c2, (B3.cell (p := ⟨gr, p1, none⟩) lr).trans h1, (B3.cell (p := ⟨gr, p2, none⟩) lr).trans h2⟩)
      | (go_at_call 42; refine (H1.out W1.drew q1).mono ?_; rintro e w1 ⟨rfl, hb1⟩; have T2 := T1d.below hb1; have B2 := B1d.trans (hb1.mono B1d.size); have q3 := (B2.cell (p := ⟨gr, p2, none⟩) lr).trans h2; have S1 : w1.cell? ⟨w.heap.size, 0, none⟩ = some (.slice (some ⟨ga, 0, none⟩) na na) ∧ w1.cell? ⟨w.heap.size, 1, none⟩ = some (.slice (some ⟨gb, 0, none⟩) nb nb) ∧ w1.cell? ⟨w.heap.size, 2, none⟩ = some (.slice (some ⟨gr, 0, none⟩) R R) ∧ w1.cell? ⟨gr, p1, none⟩ = some (.int .u16 c1) ∧ w1.cell? ⟨gr, p2, none⟩ = some (.int .u16 c2) := ⟨T2.c0, T2.c1, T2.c2, (B2.cell (p := ⟨gr, p1, none⟩) lr).trans h1, q3⟩))
  all_goals clear hsi hsj
  all_goals by_cases hcc : c2 ≤ c1
  all_goals go_wp2
  all_goals go_ret
  all_goals (first | exact ⟨rfl, B3⟩ | exact ⟨by rw [if_pos hcc], B3⟩ | exact ⟨by rw [if_neg (by omega)], B3⟩)

end Go.Proofs.YtdpoeagmeiedcaaDoor
namespace Go.Proofs.YtdpoeagmeiedcaaDoor
open Go.RowKit

theorem ed_len {α : Type} [DecidableEq α] (xs : List α) : ∀ ys : List α, (ed xs ys).length ≤ xs.length + ys.length := by
  induction xs with
  | nil => intro ys; simp [ed]
  | cons x xs ih =>
    intro ys
    induction ys with
    | nil => rw [ed_cons_nil]; have := ih []; simp at *; omega
    | cons y ys ih2 =>
      rw [ed_cons]
      have h1 := ih ys
      have h2 := ih (y :: ys)
      simp only [List.length_cons] at *
      split
      · simp only [List.length_cons]; omega
      · split <;> simp only [List.length_cons] <;> omega

/-- Edits as they lie in memory: two cells each. -/
def edCells (l : List (Nat × ByteArray)) : List Value := l.flatMap fun e => [.int .i64 (e.1 : Int), .string e.2]

theorem edCells_snoc (l : List (Nat × ByteArray)) (k : Nat) (s : ByteArray) : edCells (l ++ [(k, s)]) = edCells l ++ [.int .i64 (k : Int), .string s] := by simp [edCells]

theorem editInfo : (Tryd.prog.info? 66).map (fun i => (i.zero, i.size, i.bytes)) = some (some (.agg #[.int .i64 0, .string ⟨#[]⟩]), 2, 24) := by kernel_rfl

/-- The edits come back in a row of the call's own. -/
def Edited (w : World) (l : List (Nat × ByteArray)) (e : Ending) (w' : World) : Prop :=
  ∃ v, e = .returned (.tuple #[v, .nilIface]) ∧ w'.ownsRow w.heap.size 66 2 v l.length (edCells l) ∧ Below w.heap.size w w'

theorem own2_le {w : World} {base base' n k : Nat} {e : TypeId} {v : Value} {xs : List Value} (h : w.ownsRow base e k v n xs) (hb : base' ≤ base) : w.ownsRow base' e k v n xs := by
  refine ⟨h.1, ?_⟩
  rcases h.2 with h2 | ⟨g, cap, cur, hv, hg, r⟩
  · exact .inl h2
  · exact .inr ⟨g, cap, cur, hv, Nat.le_trans hb hg, r⟩

theorem own2_keep {w w' : World} {base k : Nat} {e : TypeId} {v : Value} {n : Nat} {xs : List Value} (h : w.ownsRow base e k v n xs) (hb : Below w.heap.size w w') : w'.ownsRow base e k v n xs :=
  h.kept (row := none) ⟨hb.os, hb.tape, hb.output, hb.size, fun k hk _ => hb.block k hk⟩ (by
    cases h' : v.ownBlock with
    | none => exact .inl rfl
    | some k => exact .inr (by simp))

/-- The grid in a block of its own, and its rows. -/
structure Kept (w : World) (G ga gb gr na nb R : Nat) (zs us cs : List Nat) : Prop where
  t : Three w G (sl ga na) (sl gb nb) (sl gr R)
  a : w.ownsRow 0 3 1 (sl ga na) na (i64s zs)
  b : w.ownsRow 0 3 1 (sl gb nb) nb (i64s us)
  r : w.ownsRow 0 92 1 (sl gr R) R (u16s cs)

theorem Kept.below {w w' : World} {G ga gb gr na nb R : Nat} {zs us cs : List Nat} (h : Kept w G ga gb gr na nb R zs us cs) (hb : Below w.heap.size w w') : Kept w' G ga gb gr na nb R zs us cs :=
  ⟨h.t.below hb, own_keep h.a hb, own_keep h.b hb, own_keep h.r hb⟩
theorem own_at {w : World} {e : TypeId} {g n : Nat} {xs : List Value} (h : w.ownsRow 0 e 1 (sl g n) n xs) {i : Nat} {x : Value} (hi : xs[i]? = some x) : w.cell? ⟨g, i, none⟩ = some x := by
  rw [h.cellAt i (by rw [← h.1]; exact (List.getElem?_eq_some_iff.1 hi).1)]
  exact hi
theorem Kept.cellA {w : World} {G ga gb gr na nb R : Nat} {zs us cs : List Nat} (h : Kept w G ga gb gr na nb R zs us cs) {i x : Nat} (hi : zs[i]? = some x) : w.cell? ⟨ga, i, none⟩ = some (.int .i64 (x : Int)) := own_at h.a (by simp [i64s, hi])
theorem Kept.cellB {w : World} {G ga gb gr na nb R : Nat} {zs us cs : List Nat} (h : Kept w G ga gb gr na nb R zs us cs) {i x : Nat} (hi : us[i]? = some x) : w.cell? ⟨gb, i, none⟩ = some (.int .i64 (x : Int)) := own_at h.b (by simp [i64s, hi])
theorem Kept.cellR {w : World} {G ga gb gr na nb R : Nat} {zs us cs : List Nat} (h : Kept w G ga gb gr na nb R zs us cs) {i x : Nat} (hi : cs[i]? = some x) : w.cell? ⟨gr, i, none⟩ = some (.int .u16 (x : Int)) := own_at h.r (by simp [u16s, hi])

set_option maxRecDepth 100000 in
set_option maxHeartbeats 4000000 in
theorem lines_good (w : World) (v u : Value) (xs ys : List ByteArray) (h : Strs w v xs) (g : Strs w u ys) (hx : ∀ s ∈ xs, s.size ≤ maxLen) (hy : ∀ s ∈ ys, s.size ≤ maxLen) (hxl : xs.length ≤ 256) (hyl : ys.length ≤ 256) :
    Calls Tryd.prog 10 #[v, u] w (Edited w (ed xs ys)) := by
  obtain ⟨A, n, c, rfl⟩ := h.form
  obtain ⟨B, m, d, rfl⟩ := g.form
  obtain rfl := h.len.1
  obtain rfl := g.len.1
  obtain ⟨i0, hi, hz0, hz1, hz2⟩ := info_parts editInfo
  have E1 := (Below.refl w.heap.size w).alloc (Nat.le_refl _) (.cells #[.slice A xs.length c, .slice B ys.length d] 22)
  have h1 := h.below E1
  have g1 := g.below E1
  have hh := heap_alloc_new w (.cells #[.slice A xs.length c, .slice B ys.length d] 22)
  have CK := Lib.hid (check_good w.heap.size xs.length c ys.length d A B hxl hyl (w.alloc (.cells #[.slice A xs.length c, .slice B ys.length d] 22)) (cell_of_row _ _ 0 _ 22 (0, 0) hh) (cell_of_row _ _ 1 _ 22 (0, 0) hh))
  have CM := Lib.hid (measure_any (w.alloc (.cells #[.slice A xs.length c, .slice B ys.length d] 22)) _ _ xs ys h1 g1 hx hy hxl hyl)
  have hz1' : (w.alloc (.cells #[.slice A xs.length c, .slice B ys.length d] 22)).heap.size = w.heap.size + 1 := by simp
  have HA := Lib.hid h1
  have HB := Lib.hid g1
  clear hx hy h g h1 g1 hh
  go_enter Tryd.func10, Tryd.ntmps10
  go_wp2_with fail
  refine CK.out.mono ?_
  rintro e w' ⟨rfl, rfl⟩
  go_wp2_with fail
  refine CM.out.mono ?_
  rintro e w2 ⟨ga, gb, gr, R, zs, us, cs, D, rfl, hR, hG, hNa, hNb, ra, rb, rr, hT, hb2⟩
  have HA2 := HA.out.below hb2
  have HB2 := HB.out.below hb2
  have E2 := E1.trans (hb2.mono (by rw [hz1']; omega))
  clear CK CM HA HB E1 hb2 hz1'
  have E3 := (Below.refl w2.heap.size w2).alloc (Nat.le_refl _) (.cells #[sl ga xs.length, sl gb ys.length, sl gr R] 85)
  have K1 : Kept (w2.alloc (.cells #[sl ga xs.length, sl gb ys.length, sl gr R] 85)) w2.heap.size ga gb gr xs.length ys.length R zs us cs :=
    ⟨Three.new w2 _ _ _ 85, own_le (ra.alloc _) (Nat.zero_le _), own_le (rb.alloc _) (Nat.zero_le _), own_le (rr.alloc _) (Nat.zero_le _)⟩
  have HA3 := HA2.below E3
  have HB3 := HB2.below E3
  have E4 := E2.trans (E3.mono E2.size)
  have HK := Lib.hid K1
  have HRR := Lib.hid hR
  have HG := Lib.hid hG
  have HNa := Lib.hid hNa
  have HNb := Lib.hid hNb
  have HT := Lib.hid hT
  clear ra rb rr hR hG hNa hNb hT K1 E2 E3 HA2 HB2
  go_wp2_with fail
  obtain ⟨W1, hW1⟩ : ∃ W1, W1 = w2.alloc (.cells #[sl ga xs.length, sl gb ys.length, sl gr R] 85) := ⟨_, rfl⟩
  obtain ⟨G, hGG⟩ : ∃ G, G = w2.heap.size := ⟨_, rfl⟩
  rw [← hW1] at HA3 HB3 E4 HK ⊢
  rw [← hGG] at HK ⊢
  have HSA := Lib.hid HA3
  have HSB := Lib.hid HB3
  have hwW := E4.size
  clear hW1 hGG HA3 HB3
  go_loopw [8, 9, 10] (fun s8 s9 s10 wr => ∃ (i j : Nat) (done : List (Nat × ByteArray)), i ≤ xs.length ∧ j ≤ ys.length ∧ s9 = .int .i64 i ∧ s10 = .int .i64 j ∧ Hid (done ++ ed (xs.drop i) (ys.drop j) = ed xs ys) ∧
      wr.ownsRow W1.heap.size 66 2 s8 done.length (edCells done) ∧ Below W1.heap.size W1 wr) (fun _ s9 s10 _ => (xs.length - (intOf s9).toNat) + (ys.length - (intOf s10).toNat))
  case atStart => exact ⟨0, 0, [], Nat.zero_le _, Nat.zero_le _, rfl, rfl, rfl, World.ownsRow_nil _ _ _ _, Below.refl _ _⟩
  case round =>
    obtain ⟨i, j, done, hil, hjl, rfl, rfl, hd, hown, hbr⟩ := hrel
    have hlen : done.length ≤ 512 := by
      have := congrArg List.length hd.out
      have := ed_len xs ys
      rw [List.length_append] at *
      omega
    have K := HK.out.below hbr
    have i0' : (0 : Int) ≤ (i : Int) := Int.natCast_nonneg _
    have j0' : (0 : Int) ≤ (j : Int) := Int.natCast_nonneg _
    have t0 := K.t.c0
    have t1 := K.t.c1
    have t2 := K.t.c2
    by_cases hi1 : i < xs.length
    · obtain ⟨s, hs⟩ : ∃ s, xs[i]? = some s := ⟨_, List.getElem?_eq_getElem hi1⟩
      have HS := Lib.hid hs
      clear hs
      by_cases hj1 : j < ys.length
      · obtain ⟨t, ht⟩ : ∃ t, ys[j]? = some t := ⟨_, List.getElem?_eq_getElem hj1⟩
        have HTt := Lib.hid ht
        clear ht
        obtain ⟨_, x, hx, _⟩ := HNa.out.2 i s HS.out
        obtain ⟨_, y, hy, _⟩ := HNb.out.2 j t HTt.out
        have HE := Lib.hid (Nums.eq HG.out HNa.out HNb.out HS.out HTt.out hx hy)
        have HC1 := Lib.hid (K.cellA hx)
        have HC2 := Lib.hid (K.cellB hy)
        clear hx hy
        by_cases hxy : x = y
        · have hst : Hid (s = t) := HE.out.1 hxy
          have HXY := Lib.hid (show (x : Int) = (y : Int) by omega)
          clear hxy
          go_wp2_with fail
          refine (next_keep ga gb gr xs.length ys.length R i j x y hi1 hj1 HXY.out wr HC1.out HC2.out).mono ?_
          rintro e w3 ⟨rfl, hb3⟩
          have hbx := hbr.trans (hb3.mono hbr.size)
          have hSA3 := (HSA.out.below hbx)
          obtain ⟨ad, s', rfl, hs', hc⟩ := hSA3.cell (k := i) (by omega)
          obtain rfl : s = s' := by rw [HS.out] at hs'; exact Option.some.inj hs'
          clear hs' hSA3
          have hcl := World.block_lt_of_cell? _ _ hc
          have hown4 := ((own2_keep hown hb3).alloc (.cells #[.int .i64 1, .string s] 66)).alloc (.cells #[.int .i64 1, .string s] 66)
          have hnews := World.news_of_block (cs := #[.int .i64 1, .string s]) (t := 66) (fr := (0, 0)) (heap_alloc_new (w3.alloc (.cells #[.int .i64 1, .string s] 66)) (.cells #[.int .i64 1, .string s] 66))
          have hb4 := (hbx.alloc hbx.size (.cells #[.int .i64 1, .string s] 66)).alloc (by have := hbx.size; simp; omega) (.cells #[.int .i64 1, .string s] 66)
          have hsz4 := hb4.size
          rw [show (w3.alloc (.cells #[.int .i64 1, .string s] 66)).heap.size = w3.heap.size + 1 from by simp] at hnews
          go_wp2_with (at_builtin; refine wpList_append_own _ rfl _ _ 25 rfl W1.heap.size 66 i0 (.agg #[.int .i64 0, .string ⟨#[]⟩]) 2 24 Tryd.underlying25 hi hz0 hz1 hz2 rfl (by decide) _ _ _ rfl hown4 ⟨w3.heap.size + 1, 0, none⟩ 1 1 [.int .i64 1, .string s] rfl rfl hnews (by simp [Value.oneCell']) (by unfold maxLen; omega) (by omega) hsz4 ?_; intro v5 w5 hown5 hg5 _)
          have hb5 : Below W1.heap.size W1 w5 := hb4.grown hg5 hsz4 (fun k hk => (hown.lt k hk).1)
          clear hnews hown4 hg5 hb4
          go_roundw
          case rel => exact ⟨i + 1, j + 1, done ++ [(1, s)], by omega, by omega, by go_num, by go_num, by rw [List.append_assoc]; have := hd.out; rw [ed_keep HS.out HTt.out hst.out] at this; exact this, by simpa [edCells_snoc] using hown5, hb5⟩
          case measure => simp [intOf]; omega
        · have hst : Hid (s ≠ t) := fun e => hxy (HE.out.2 e)
          have hxyb : ((x : Int) == (y : Int)) = false := by simpa using fun e : (x : Int) = (y : Int) => hxy (by omega)
          have HXY := Lib.hid hxyb
          clear hxyb
          have hP1 : pl ys.length (i + 1) j < R := by rw [HRR.out]; exact plc_lt (by omega) (by omega)
          have hP2 : pl ys.length i (j + 1) < R := by rw [HRR.out]; exact plc_lt (by omega) (by omega)
          have q1 : cs[pl ys.length (i + 1) j]? = some (lc (xs.drop (i + 1)) (ys.drop j)) := HT.out.at (by omega) (by omega)
          have q2 : cs[pl ys.length i (j + 1)]? = some (lc (xs.drop i) (ys.drop (j + 1))) := HT.out.at (by omega) (by omega)
          have NE := next_else ga gb gr xs.length ys.length R i j x y _ _ hi1 hj1 (by omega) (by omega) HXY.out hP1 hP2 wr HC1.out HC2.out (K.cellR q1) (K.cellR q2)
          clear q1 q2 hP1 hP2 hxy
          by_cases hle : lc (xs.drop i) (ys.drop (j + 1)) ≤ lc (xs.drop (i + 1)) (ys.drop j)
          · rw [if_pos (by omega)] at NE
            have HNE := Lib.hid NE
            have HLE := Lib.hid hle
            clear NE hle
            go_wp2_with fail
            refine (HNE.out).mono ?_
            rintro e w3 ⟨rfl, hb3⟩
            have hbx := hbr.trans (hb3.mono hbr.size)
            have hSA3 := (HSA.out.below hbx)
            obtain ⟨ad, s', rfl, hs', hc⟩ := hSA3.cell (k := i) (by omega)
            obtain rfl : s = s' := by rw [HS.out] at hs'; exact Option.some.inj hs'
            clear hs' hSA3
            have hcl := World.block_lt_of_cell? _ _ hc
            have hown4 := ((own2_keep hown hb3).alloc (.cells #[.int .i64 2, .string s] 66)).alloc (.cells #[.int .i64 2, .string s] 66)
            have hnews := World.news_of_block (cs := #[.int .i64 2, .string s]) (t := 66) (fr := (0, 0)) (heap_alloc_new (w3.alloc (.cells #[.int .i64 2, .string s] 66)) (.cells #[.int .i64 2, .string s] 66))
            have hb4 := (hbx.alloc hbx.size (.cells #[.int .i64 2, .string s] 66)).alloc (by have := hbx.size; simp; omega) (.cells #[.int .i64 2, .string s] 66)
            have hsz4 := hb4.size
            rw [show (w3.alloc (.cells #[.int .i64 2, .string s] 66)).heap.size = w3.heap.size + 1 from by simp] at hnews
            go_wp2_with (at_builtin; refine wpList_append_own _ rfl _ _ 25 rfl W1.heap.size 66 i0 (.agg #[.int .i64 0, .string ⟨#[]⟩]) 2 24 Tryd.underlying25 hi hz0 hz1 hz2 rfl (by decide) _ _ _ rfl hown4 ⟨w3.heap.size + 1, 0, none⟩ 1 1 [.int .i64 2, .string s] rfl rfl hnews (by simp [Value.oneCell']) (by unfold maxLen; omega) (by omega) hsz4 ?_; intro v5 w5 hown5 hg5 _)
            have hb5 : Below W1.heap.size W1 w5 := hb4.grown hg5 hsz4 (fun k hk => (hown.lt k hk).1)
            clear hnews hown4 hg5 hb4
            go_roundw
            case rel => exact ⟨i + 1, j, done ++ [(2, s)], by omega, by omega, by go_num, by go_num, by rw [List.append_assoc]; have := hd.out; rw [ed_else HS.out HTt.out hst.out, if_pos HLE.out] at this; exact this, by simpa [edCells_snoc] using hown5, hb5⟩
            case measure => simp [intOf]; omega
          · rw [if_neg (by omega)] at NE
            have HNE := Lib.hid NE
            have HLE := Lib.hid hle
            clear NE hle
            go_wp2_with fail
            refine (HNE.out).mono ?_
            rintro e w3 ⟨rfl, hb3⟩
            have hbx := hbr.trans (hb3.mono hbr.size)
            have hSB3 := (HSB.out.below hbx)
            obtain ⟨ad, t', rfl, ht', hc⟩ := hSB3.cell (k := j) (by omega)
            obtain rfl : t = t' := by rw [HTt.out] at ht'; exact Option.some.inj ht'
            clear ht' hSB3
            have hcl := World.block_lt_of_cell? _ _ hc
            have hown4 := ((own2_keep hown hb3).alloc (.cells #[.int .i64 3, .string t] 66)).alloc (.cells #[.int .i64 3, .string t] 66)
            have hnews := World.news_of_block (cs := #[.int .i64 3, .string t]) (t := 66) (fr := (0, 0)) (heap_alloc_new (w3.alloc (.cells #[.int .i64 3, .string t] 66)) (.cells #[.int .i64 3, .string t] 66))
            have hb4 := (hbx.alloc hbx.size (.cells #[.int .i64 3, .string t] 66)).alloc (by have := hbx.size; simp; omega) (.cells #[.int .i64 3, .string t] 66)
            have hsz4 := hb4.size
            rw [show (w3.alloc (.cells #[.int .i64 3, .string t] 66)).heap.size = w3.heap.size + 1 from by simp] at hnews
            go_wp2_with (at_builtin; refine wpList_append_own _ rfl _ _ 25 rfl W1.heap.size 66 i0 (.agg #[.int .i64 0, .string ⟨#[]⟩]) 2 24 Tryd.underlying25 hi hz0 hz1 hz2 rfl (by decide) _ _ _ rfl hown4 ⟨w3.heap.size + 1, 0, none⟩ 1 1 [.int .i64 3, .string t] rfl rfl hnews (by simp [Value.oneCell']) (by unfold maxLen; omega) (by omega) hsz4 ?_; intro v5 w5 hown5 hg5 _)
            have hb5 : Below W1.heap.size W1 w5 := hb4.grown hg5 hsz4 (fun k hk => (hown.lt k hk).1)
            clear hnews hown4 hg5 hb4
            go_roundw
            case rel => exact ⟨i, j + 1, done ++ [(3, t)], by omega, by omega, by go_num, by go_num, by rw [List.append_assoc]; have := hd.out; rw [ed_else HS.out HTt.out hst.out, if_neg HLE.out] at this; exact this, by simpa [edCells_snoc] using hown5, hb5⟩
            case measure => simp [intOf]; omega
      · obtain rfl : j = ys.length := by omega
        go_wp2_with fail
        refine (next_end_b ga gb gr xs.length ys.length R i hi1 wr).mono ?_
        rintro e w3 ⟨rfl, hb3⟩
        have hbx := hbr.trans (hb3.mono hbr.size)
        have hSA3 := (HSA.out.below hbx)
        obtain ⟨ad, s', rfl, hs', hc⟩ := hSA3.cell (k := i) (by omega)
        obtain rfl : s = s' := by rw [HS.out] at hs'; exact Option.some.inj hs'
        clear hs' hSA3
        have hcl := World.block_lt_of_cell? _ _ hc
        have hown4 := ((own2_keep hown hb3).alloc (.cells #[.int .i64 2, .string s] 66)).alloc (.cells #[.int .i64 2, .string s] 66)
        have hnews := World.news_of_block (cs := #[.int .i64 2, .string s]) (t := 66) (fr := (0, 0)) (heap_alloc_new (w3.alloc (.cells #[.int .i64 2, .string s] 66)) (.cells #[.int .i64 2, .string s] 66))
        have hb4 := (hbx.alloc hbx.size (.cells #[.int .i64 2, .string s] 66)).alloc (by have := hbx.size; simp; omega) (.cells #[.int .i64 2, .string s] 66)
        have hsz4 := hb4.size
        rw [show (w3.alloc (.cells #[.int .i64 2, .string s] 66)).heap.size = w3.heap.size + 1 from by simp] at hnews
        go_wp2_with (at_builtin; refine wpList_append_own _ rfl _ _ 25 rfl W1.heap.size 66 i0 (.agg #[.int .i64 0, .string ⟨#[]⟩]) 2 24 Tryd.underlying25 hi hz0 hz1 hz2 rfl (by decide) _ _ _ rfl hown4 ⟨w3.heap.size + 1, 0, none⟩ 1 1 [.int .i64 2, .string s] rfl rfl hnews (by simp [Value.oneCell']) (by unfold maxLen; omega) (by omega) hsz4 ?_; intro v5 w5 hown5 hg5 _)
        have hb5 : Below W1.heap.size W1 w5 := hb4.grown hg5 hsz4 (fun k hk => (hown.lt k hk).1)
        clear hnews hown4 hg5 hb4
        go_roundw
        case rel => exact ⟨i + 1, ys.length, done ++ [(2, s)], by omega, by omega, by go_num, by go_num, by rw [List.append_assoc]; have := hd.out; rw [ed_end_b HS.out] at this; exact this, by simpa [edCells_snoc] using hown5, hb5⟩
        case measure => simp [intOf]; omega
    · obtain rfl : i = xs.length := by omega
      by_cases hj1 : j < ys.length
      · obtain ⟨t, ht⟩ : ∃ t, ys[j]? = some t := ⟨_, List.getElem?_eq_getElem hj1⟩
        have HTt := Lib.hid ht
        clear ht
        go_wp2_with fail
        refine (next_end_a ga gb gr xs.length ys.length R j wr).mono ?_
        rintro e w3 ⟨rfl, hb3⟩
        have hbx := hbr.trans (hb3.mono hbr.size)
        have hSB3 := (HSB.out.below hbx)
        obtain ⟨ad, t', rfl, ht', hc⟩ := hSB3.cell (k := j) (by omega)
        obtain rfl : t = t' := by rw [HTt.out] at ht'; exact Option.some.inj ht'
        clear ht' hSB3
        have hcl := World.block_lt_of_cell? _ _ hc
        have hown4 := ((own2_keep hown hb3).alloc (.cells #[.int .i64 3, .string t] 66)).alloc (.cells #[.int .i64 3, .string t] 66)
        have hnews := World.news_of_block (cs := #[.int .i64 3, .string t]) (t := 66) (fr := (0, 0)) (heap_alloc_new (w3.alloc (.cells #[.int .i64 3, .string t] 66)) (.cells #[.int .i64 3, .string t] 66))
        have hb4 := (hbx.alloc hbx.size (.cells #[.int .i64 3, .string t] 66)).alloc (by have := hbx.size; simp; omega) (.cells #[.int .i64 3, .string t] 66)
        have hsz4 := hb4.size
        rw [show (w3.alloc (.cells #[.int .i64 3, .string t] 66)).heap.size = w3.heap.size + 1 from by simp] at hnews
        go_wp2_with (at_builtin; refine wpList_append_own _ rfl _ _ 25 rfl W1.heap.size 66 i0 (.agg #[.int .i64 0, .string ⟨#[]⟩]) 2 24 Tryd.underlying25 hi hz0 hz1 hz2 rfl (by decide) _ _ _ rfl hown4 ⟨w3.heap.size + 1, 0, none⟩ 1 1 [.int .i64 3, .string t] rfl rfl hnews (by simp [Value.oneCell']) (by unfold maxLen; omega) (by omega) hsz4 ?_; intro v5 w5 hown5 hg5 _)
        have hb5 : Below W1.heap.size W1 w5 := hb4.grown hg5 hsz4 (fun k hk => (hown.lt k hk).1)
        clear hnews hown4 hg5 hb4
        go_roundw
        case rel => exact ⟨xs.length, j + 1, done ++ [(3, t)], by omega, by omega, by go_num, by go_num, by rw [List.append_assoc]; have := hd.out; rw [ed_end_a HTt.out] at this; exact this, by simpa [edCells_snoc] using hown5, hb5⟩
        case measure => simp [intOf]; omega
      · obtain rfl : j = ys.length := by omega
        have hdone : Hid (done = ed xs ys) := by
          have := hd.out
          rw [List.drop_length, List.drop_length] at this
          rw [← this]
          exact (List.append_nil done).symm
        clear hd
        go_wp2
        go_ret2
        refine ⟨u8, rfl, ?_, E4.trans (hbr.mono hwW)⟩
        rw [← hdone.out]
        exact own2_le hown hwW

end Go.Proofs.YtdpoeagmeiedcaaDoor
namespace Go.Proofs.YtdpoeagmeiedcaaDoor
variable {α : Type}

/-- Of each line of the one text where it is kept in the other. -/
def pls : List (Nat × α) → Nat → List (Option Nat)
  | [], _ => []
  | e :: l, at0 => if e.1 = 1 then some at0 :: pls l (at0 + 1) else if e.1 = 2 then none :: pls l at0 else pls l (at0 + 1)

theorem pls_len (l : List (Nat × α)) (h : ∀ e ∈ l, e.1 = 1 ∨ e.1 = 2 ∨ e.1 = 3) : ∀ a, (pls l a).length = (edA l).length := by
  induction l with
  | nil => intro a; rfl
  | cons e l ih =>
    intro a
    obtain ⟨k, x⟩ := e
    have ih := ih (fun e he => h e (List.mem_cons_of_mem _ he))
    have hk := h (k, x) (List.mem_cons_self ..)
    simp only at hk
    rw [edA_cons]
    simp only [pls]
    rcases hk with rfl | rfl | rfl <;> simp [ih]

/-- A line that is kept is the same line, in the other text. -/
theorem pls_at (l : List (Nat × α)) (h : ∀ e ∈ l, e.1 = 1 ∨ e.1 = 2 ∨ e.1 = 3) : ∀ (a i j : Nat), (pls l a)[i]? = some (some j) → a ≤ j ∧ ∃ x, (edA l)[i]? = some x ∧ (edB l)[j - a]? = some x := by
  induction l with
  | nil => intro a i j hh; simp [pls] at hh
  | cons e l ih =>
    intro a i j hh
    obtain ⟨k, x⟩ := e
    have ih := ih (fun e he => h e (List.mem_cons_of_mem _ he))
    have hk := h (k, x) (List.mem_cons_self ..)
    simp only at hk
    rw [edA_cons, edB_cons]
    simp only [pls] at hh
    rcases hk with rfl | rfl | rfl
    · simp only [if_true] at hh
      cases i with
      | zero =>
        simp at hh
        subst hh
        exact ⟨Nat.le_refl _, x, by simp, by simp⟩
      | succ i =>
        simp only [List.getElem?_cons_succ] at hh
        obtain ⟨h1, y, h2, h3⟩ := ih _ _ _ hh
        refine ⟨by omega, y, by simpa using h2, ?_⟩
        rw [if_neg (by omega), show j - a = (j - (a + 1)) + 1 by omega, List.getElem?_cons_succ]
        exact h3
    · simp only [if_true] at hh
      cases i with
      | zero => simp at hh
      | succ i =>
        rw [if_neg (by omega), List.getElem?_cons_succ] at hh
        obtain ⟨h1, y, h2, h3⟩ := ih _ _ _ hh
        exact ⟨h1, y, by simpa using h2, by simpa using h3⟩
    · rw [if_neg (by omega), if_neg (by omega)] at hh
      obtain ⟨h1, y, h2, h3⟩ := ih _ _ _ hh
      refine ⟨by omega, y, by simpa using h2, ?_⟩
      rw [if_neg (by omega), show j - a = (j - (a + 1)) + 1 by omega, List.getElem?_cons_succ]
      exact h3

/-- What is kept later lies later. -/
theorem pls_mono (l : List (Nat × α)) (h : ∀ e ∈ l, e.1 = 1 ∨ e.1 = 2 ∨ e.1 = 3) : ∀ (a i j i' j' : Nat), (pls l a)[i]? = some (some j) → (pls l a)[i']? = some (some j') → i < i' → j < j' := by
  induction l with
  | nil => intro a i j i' j' hh; simp [pls] at hh
  | cons e l ih =>
    intro a i j i' j' hh hh' hlt
    obtain ⟨k, x⟩ := e
    have hl := fun e he => h e (List.mem_cons_of_mem (k, x) he)
    have ih := ih hl
    have hk := h (k, x) (List.mem_cons_self ..)
    simp only at hk
    simp only [pls] at hh hh'
    rcases hk with rfl | rfl | rfl
    · simp only [if_true] at hh hh'
      obtain ⟨i', rfl⟩ : ∃ q, i' = q + 1 := ⟨i' - 1, by omega⟩
      simp only [List.getElem?_cons_succ] at hh'
      cases i with
      | zero =>
        simp at hh
        subst hh
        have := (pls_at l hl _ _ _ hh').1
        omega
      | succ i =>
        simp only [List.getElem?_cons_succ] at hh
        exact ih _ _ _ _ _ hh hh' (by omega)
    · rw [if_neg (by omega)] at hh hh'
      simp only [if_true] at hh hh'
      obtain ⟨i', rfl⟩ : ∃ q, i' = q + 1 := ⟨i' - 1, by omega⟩
      cases i with
      | zero => simp at hh
      | succ i =>
        simp only [List.getElem?_cons_succ] at hh hh'
        exact ih _ _ _ _ _ hh hh' (by omega)
    · rw [if_neg (by omega), if_neg (by omega)] at hh hh'
      exact ih _ _ _ _ _ hh hh' hlt

/-- Places in the other text, as they come of edits. -/
structure Places (p : List (Option Nat)) (b o : List α) : Prop where
  len : p.length = b.length
  eq : ∀ i j : Nat, p[i]? = some (some j) → ∃ x, b[i]? = some x ∧ o[j]? = some x
  mono : ∀ i j i' j' : Nat, p[i]? = some (some j) → p[i']? = some (some j') → i < i' → j < j'

theorem Places.lt {p : List (Option Nat)} {b o : List α} (h : Places p b o) {i j : Nat} (hi : p[i]? = some (some j)) : i < b.length ∧ j < o.length := by
  obtain ⟨x, h1, h2⟩ := h.eq i j hi
  exact ⟨(List.getElem?_eq_some_iff.1 h1).1, (List.getElem?_eq_some_iff.1 h2).1⟩

variable [DecidableEq α]

structure Ck (α : Type) where
  base : List α
  ours : List α
  theirs : List α
  clash : Bool
  out : List α

def decideC (x y z : List α) : Ck α := if y = x then ⟨x, y, z, false, z⟩ else if z = x ∨ y = z then ⟨x, y, z, false, y⟩ else ⟨x, y, z, true, []⟩
def cutL2 (l : List α) (i j : Nat) : List α := (l.drop i).take (j - i)

def isSome2 : Option (Option Nat) → Bool
  | some (some _) => true
  | _ => false
def isK (p q : List (Option Nat)) (i : Nat) : Bool := isSome2 p[i]? && isSome2 q[i]?
/-- The next place where k holds, in f steps at most. -/
def nx (k : Nat → Bool) : Nat → Nat → Nat
  | 0, i => i
  | f + 1, i => if k i = true then i else nx k f (i + 1)
/-- How far k holds on. -/
def rn (k : Nat → Bool) : Nat → Nat → Nat
  | 0, n => n
  | f + 1, n => if k n = true then rn k f (n + 1) else n
def atD (p : List (Option Nat)) (i d : Nat) : Nat := match p[i]? with
  | some (some j) => j
  | _ => d
def isRun (p q : List (Option Nat)) (i j k n : Nat) : Bool := decide (p[i + n]? = some (some (j + n))) && decide (q[i + n]? = some (some (k + n)))

def firstC (b o t : List α) (i j k n j1 k1 : Nat) : List (Ck α) := if i < n ∨ j < j1 ∨ k < k1 then [decideC (cutL2 b i n) (cutL2 o j j1) (cutL2 t k k1)] else []
def keptC (b o t : List α) (i j k m : Nat) : List (Ck α) := if 0 < m then [⟨cutL2 b i (i + m), cutL2 o j (j + m), cutL2 t k (k + m), false, cutL2 b i (i + m)⟩] else []

def chunks (p q : List (Option Nat)) (b o t : List α) : Nat → Nat → Nat → Nat → List (Ck α)
  | 0, _, _, _ => []
  | f + 1, i, j, k =>
    if i = b.length ∧ j = o.length ∧ k = t.length then [] else
      firstC b o t i j k (nx (isK p q) (b.length - i) i) (atD p (nx (isK p q) (b.length - i) i) o.length) (atD q (nx (isK p q) (b.length - i) i) t.length) ++
      (keptC b o t (nx (isK p q) (b.length - i) i) (atD p (nx (isK p q) (b.length - i) i) o.length) (atD q (nx (isK p q) (b.length - i) i) t.length)
        (rn (isRun p q (nx (isK p q) (b.length - i) i) (atD p (nx (isK p q) (b.length - i) i) o.length) (atD q (nx (isK p q) (b.length - i) i) t.length)) (b.length - nx (isK p q) (b.length - i) i) 0) ++
      chunks p q b o t f (nx (isK p q) (b.length - i) i + rn (isRun p q (nx (isK p q) (b.length - i) i) (atD p (nx (isK p q) (b.length - i) i) o.length) (atD q (nx (isK p q) (b.length - i) i) t.length)) (b.length - nx (isK p q) (b.length - i) i) 0)
        (atD p (nx (isK p q) (b.length - i) i) o.length + rn (isRun p q (nx (isK p q) (b.length - i) i) (atD p (nx (isK p q) (b.length - i) i) o.length) (atD q (nx (isK p q) (b.length - i) i) t.length)) (b.length - nx (isK p q) (b.length - i) i) 0)
        (atD q (nx (isK p q) (b.length - i) i) t.length + rn (isRun p q (nx (isK p q) (b.length - i) i) (atD p (nx (isK p q) (b.length - i) i) o.length) (atD q (nx (isK p q) (b.length - i) i) t.length)) (b.length - nx (isK p q) (b.length - i) i) 0))

/-- One step: n the next line that both keep, m how many from there on. -/
structure Step (p q : List (Option Nat)) (b o t : List α) (i j k n j1 k1 m : Nat) : Prop where
  le : i ≤ n
  nb : n ≤ b.length
  no : ∀ x, i ≤ x → x < n → isK p q x = false
  yes : n < b.length → p[n]? = some (some j1) ∧ q[n]? = some (some k1)
  fin : n = b.length → j1 = o.length ∧ k1 = t.length ∧ m = 0
  pos : n < b.length → 0 < m
  run : ∀ x, x < m → p[n + x]? = some (some (j1 + x)) ∧ q[n + x]? = some (some (k1 + x))
  nm : n + m ≤ b.length

theorem nx_ge (k : Nat → Bool) : ∀ f i, i ≤ nx k f i ∧ nx k f i ≤ i + f ∧ (∀ x, i ≤ x → x < nx k f i → k x = false) ∧ (nx k f i < i + f → k (nx k f i) = true)
  | 0, i => ⟨Nat.le_refl _, Nat.le_refl _, fun x h1 h2 => by simp [nx] at h2; omega, fun h => by simp [nx] at h⟩
  | f + 1, i => by
    unfold nx
    cases hk : k i with
    | true => rw [if_pos rfl]; exact ⟨Nat.le_refl _, by omega, fun x h1 h2 => by omega, fun _ => hk⟩
    | false =>
      rw [if_neg (by simp)]
      obtain ⟨h1, h2, h3, h4⟩ := nx_ge k f (i + 1)
      refine ⟨by omega, by omega, fun x hx1 hx2 => ?_, fun h => h4 (by omega)⟩
      by_cases e : x = i
      · rw [e]; exact hk
      · exact h3 x (by omega) hx2

theorem rn_ge (k : Nat → Bool) : ∀ f n, n ≤ rn k f n ∧ rn k f n ≤ n + f ∧ (∀ x, n ≤ x → x < rn k f n → k x = true) ∧ (rn k f n < n + f → k (rn k f n) = false)
  | 0, n => ⟨Nat.le_refl _, Nat.le_refl _, fun x h1 h2 => by simp [rn] at h2; omega, fun h => by simp [rn] at h⟩
  | f + 1, n => by
    unfold rn
    cases hk : k n with
    | false => rw [if_neg (by simp)]; exact ⟨Nat.le_refl _, by omega, fun x h1 h2 => by omega, fun _ => hk⟩
    | true =>
      rw [if_pos rfl]
      obtain ⟨h1, h2, h3, h4⟩ := rn_ge k f (n + 1)
      refine ⟨by omega, by omega, fun x hx1 hx2 => ?_, fun h => h4 (by omega)⟩
      by_cases e : x = n
      · rw [e]; exact hk
      · exact h3 x (by omega) hx2

theorem isSome2_iff {x : Option (Option Nat)} : isSome2 x = true ↔ ∃ j, x = some (some j) := by
  match x with
  | none => simp [isSome2]
  | some none => simp [isSome2]
  | some (some j) => simp [isSome2]

/-- What the cut is, by its steps. -/
theorem chunks_step (p q : List (Option Nat)) (b o t : List α) (f i j k n j1 k1 m : Nat) (hn : n = nx (isK p q) (b.length - i) i) (hj : j1 = atD p n o.length) (hk : k1 = atD q n t.length) (hm : m = rn (isRun p q n j1 k1) (b.length - n) 0)
    (he : ¬(i = b.length ∧ j = o.length ∧ k = t.length)) : chunks p q b o t (f + 1) i j k = firstC b o t i j k n j1 k1 ++ (keptC b o t n j1 k1 m ++ chunks p q b o t f (n + m) (j1 + m) (k1 + m)) := by
  subst hn; subst hj; subst hk; subst hm
  rw [chunks, if_neg he]
theorem chunks_end (p q : List (Option Nat)) (b o t : List α) (f i j k : Nat) (he : i = b.length ∧ j = o.length ∧ k = t.length) : chunks p q b o t f i j k = [] := by
  cases f with
  | zero => rfl
  | succ f => rw [chunks, if_pos he]

omit [DecidableEq α] in
theorem step_any (p q : List (Option Nat)) (b o t : List α) (hp : p.length = b.length) (hq : q.length = b.length) (i j k : Nat) (hi : i ≤ b.length) :
    ∃ n j1 k1 m, Step p q b o t i j k n j1 k1 m ∧ n = nx (isK p q) (b.length - i) i ∧ j1 = atD p n o.length ∧ k1 = atD q n t.length ∧ m = rn (isRun p q n j1 k1) (b.length - n) 0 := by
  refine ⟨_, _, _, _, ?_, rfl, rfl, rfl, rfl⟩
  obtain ⟨h1, h2, h3, h4⟩ := nx_ge (isK p q) (b.length - i) i
  generalize nx (isK p q) (b.length - i) i = n at *
  have hyes : n < b.length → p[n]? = some (some (atD p n o.length)) ∧ q[n]? = some (some (atD q n t.length)) := fun h => by
    have hk := h4 (by omega)
    unfold isK at hk
    rw [Bool.and_eq_true, isSome2_iff, isSome2_iff] at hk
    obtain ⟨⟨x, hx⟩, y, hy⟩ := hk
    unfold atD
    rw [hx, hy]
    exact ⟨rfl, rfl⟩
  obtain ⟨r1, r2, r3, r4⟩ := rn_ge (isRun p q n (atD p n o.length) (atD q n t.length)) (b.length - n) 0
  have hrun : ∀ x, isRun p q n (atD p n o.length) (atD q n t.length) x = true ↔ (p[n + x]? = some (some (atD p n o.length + x)) ∧ q[n + x]? = some (some (atD q n t.length + x))) := fun x => by
    unfold isRun; rw [Bool.and_eq_true, decide_eq_true_iff, decide_eq_true_iff]
  refine ⟨h1, by omega, h3, hyes, fun e => ⟨?_, ?_, by omega⟩, fun h => ?_, fun x hx => (hrun x).1 (r3 x (by omega) hx), by omega⟩
  · unfold atD
    have : p[n]? = none := List.getElem?_eq_none (by omega)
    rw [this]
  · unfold atD
    have : q[n]? = none := List.getElem?_eq_none (by omega)
    rw [this]
  · by_cases e : rn (isRun p q n (atD p n o.length) (atD q n t.length)) (b.length - n) 0 = 0
    · have := r4 (by omega)
      rw [e] at this
      have h0 := (hrun 0).2 (by simpa using hyes h)
      rw [h0] at this
      cases this
    · omega

end Go.Proofs.YtdpoeagmeiedcaaDoor
namespace Go.Proofs.YtdpoeagmeiedcaaDoor
variable {α : Type} [DecidableEq α]

omit [DecidableEq α] in
theorem cutL2_self (l : List α) (i : Nat) : cutL2 l i i = [] := by simp [cutL2]
omit [DecidableEq α] in
theorem cutL2_drop (l : List α) {i n : Nat} (h : i ≤ n) : cutL2 l i n ++ l.drop n = l.drop i := by
  have : l.drop n = (l.drop i).drop (n - i) := by rw [List.drop_drop]; congr 1; omega
  rw [this]
  exact List.take_append_drop _ _
omit [DecidableEq α] in
theorem cutL2_at (l : List α) (i n x : Nat) (h : x < n - i) : (cutL2 l i n)[x]? = l[i + x]? := by
  unfold cutL2
  rw [List.getElem?_take_of_lt h, List.getElem?_drop]
omit [DecidableEq α] in
theorem cutL2_len (l : List α) {i n : Nat} (h : n ≤ l.length) : (cutL2 l i n).length = n - i := by
  unfold cutL2
  rw [List.length_take, List.length_drop]
  omega

theorem decideC_base (x y z : List α) : (decideC x y z).base = x := by unfold decideC; split; rfl; split <;> rfl
theorem decideC_ours (x y z : List α) : (decideC x y z).ours = y := by unfold decideC; split; rfl; split <;> rfl
theorem decideC_theirs (x y z : List α) : (decideC x y z).theirs = z := by unfold decideC; split; rfl; split <;> rfl

/-- A place behind what has been cut. -/
structure Beh (p : List (Option Nat)) (o : List α) (i j : Nat) : Prop where
  le : j ≤ o.length
  ge : ∀ i' j' : Nat, i ≤ i' → p[i']? = some (some j') → j ≤ j'

omit [DecidableEq α] in
theorem Beh.zero (p : List (Option Nat)) (o : List α) : Beh p o 0 0 := ⟨Nat.zero_le _, fun _ _ _ _ => Nat.zero_le _⟩

omit [DecidableEq α] in
/-- A step in one of the two other texts. -/
theorem Beh.step {p q : List (Option Nat)} {b o t : List α} {i j k n j1 k1 m : Nat} (h : Beh p o i j) (hp : Places p b o) (s : Step p q b o t i j k n j1 k1 m) : j ≤ j1 ∧ j1 + m ≤ o.length ∧ Beh p o (n + m) (j1 + m) := by
  by_cases hn : n < b.length
  · have hy := (s.yes hn).1
    have hm := s.pos hn
    have hlast := (s.run (m - 1) (by omega)).1
    have hlt := (hp.lt hlast).2
    have hle := h.ge n j1 s.le hy
    refine ⟨hle, by omega, ⟨by omega, fun i' j' hi' hj' => ?_⟩⟩
    have := hp.mono (n + (m - 1)) (j1 + (m - 1)) i' j' hlast hj' (by omega)
    omega
  · have he : n = b.length := by have := s.nb; omega
    obtain ⟨h1, h2, h3⟩ := s.fin he
    have := h.le
    refine ⟨by omega, by omega, ⟨by omega, fun i' j' hi' hj' => ?_⟩⟩
    have := (hp.lt hj').1
    omega

omit [DecidableEq α] in
theorem Step.turn {p q : List (Option Nat)} {b o t : List α} {i j k n j1 k1 m : Nat} (s : Step p q b o t i j k n j1 k1 m) : Step q p b t o i k j n k1 j1 m :=
  ⟨s.le, s.nb, fun x h1 h2 => by have := s.no x h1 h2; unfold isK at *; rw [Bool.and_comm]; exact this, fun h => (s.yes h).symm, fun h => ⟨(s.fin h).2.1, (s.fin h).1, (s.fin h).2.2⟩, s.pos, fun x h => (s.run x h).symm, s.nm⟩

omit [DecidableEq α] in
/-- What is kept is the same in both. -/
theorem run_eq {p q : List (Option Nat)} {b o t : List α} {i j k n j1 k1 m : Nat} (hp : Places p b o) (s : Step p q b o t i j k n j1 k1 m) (ho : j1 + m ≤ o.length) : cutL2 b n (n + m) = cutL2 o j1 (j1 + m) := by
  apply List.ext_getElem?
  intro x
  by_cases hx : x < m
  · rw [cutL2_at _ _ _ _ (by omega), cutL2_at _ _ _ _ (by omega)]
    obtain ⟨y, h1, h2⟩ := hp.eq _ _ (s.run x hx).1
    rw [h1, h2]
  · rw [List.getElem?_eq_none (by rw [cutL2_len _ s.nm]; omega), List.getElem?_eq_none (by rw [cutL2_len _ ho]; omega)]

/-- Where something holds of each step's pieces, it holds of all: by induction over the steps. -/
theorem chunks_ind {p q : List (Option Nat)} {b o t : List α} (hp : Places p b o) (hq : Places q b t) (P : Nat → Nat → Nat → List (Ck α) → Prop)
    (fin : P b.length o.length t.length [])
    (step : ∀ i j k n j1 k1 m L, i ≤ b.length → Beh p o i j → Beh q t i k → Step p q b o t i j k n j1 k1 m → ¬(i = b.length ∧ j = o.length ∧ k = t.length) → P (n + m) (j1 + m) (k1 + m) L → P i j k (firstC b o t i j k n j1 k1 ++ (keptC b o t n j1 k1 m ++ L))) :
    ∀ f i j k, b.length < f + i ∨ (i = b.length ∧ j = o.length ∧ k = t.length) → i ≤ b.length → Beh p o i j → Beh q t i k → P i j k (chunks p q b o t f i j k) := by
  intro f
  induction f with
  | zero =>
    intro i j k hf hi _ _
    rcases hf with hf | ⟨rfl, rfl, rfl⟩
    · omega
    · exact fin
  | succ f ih =>
    intro i j k hf hi ha hb
    by_cases he : i = b.length ∧ j = o.length ∧ k = t.length
    · rw [chunks_end _ _ _ _ _ _ _ _ _ he]
      obtain ⟨rfl, rfl, rfl⟩ := he
      exact fin
    · obtain ⟨n, j1, k1, m, s, h1, h2, h3, h4⟩ := step_any p q b o t hp.len hq.len i j k hi
      rw [chunks_step p q b o t f i j k n j1 k1 m h1 h2 h3 h4 he]
      refine step i j k n j1 k1 m _ hi ha hb s he (ih _ _ _ ?_ s.nm (ha.step hp s).2.2 (hb.step hq s.turn).2.2)
      by_cases hn : n < b.length
      · have := s.pos hn
        have := s.le
        left
        rcases hf with hf | hf
        · omega
        · exact absurd hf he
      · have hne : n = b.length := by have := s.nb; omega
        obtain ⟨g1, g2, g3⟩ := s.fin hne
        right
        omega

/-- The pieces put together are the three texts. -/
theorem chunks_parts {p q : List (Option Nat)} {b o t : List α} (hp : Places p b o) (hq : Places q b t) (f i j k : Nat) (hf : b.length < f + i ∨ (i = b.length ∧ j = o.length ∧ k = t.length)) (hi : i ≤ b.length) (ha : Beh p o i j) (hb : Beh q t i k) :
    (chunks p q b o t f i j k).flatMap (·.base) = b.drop i ∧ (chunks p q b o t f i j k).flatMap (·.ours) = o.drop j ∧ (chunks p q b o t f i j k).flatMap (·.theirs) = t.drop k := by
  refine chunks_ind hp hq (fun i j k L => L.flatMap (·.base) = b.drop i ∧ L.flatMap (·.ours) = o.drop j ∧ L.flatMap (·.theirs) = t.drop k) ⟨by simp, by simp, by simp⟩ ?_ f i j k hf hi ha hb
  intro i j k n j1 k1 m L hi ha hb s he ⟨h1, h2, h3⟩
  have hj := (ha.step hp s).1
  have hk := (hb.step hq s.turn).1
  have hn := s.le
  simp only [List.flatMap_append, h1, h2, h3]
  have f1 : (firstC b o t i j k n j1 k1).flatMap (·.base) = cutL2 b i n ∧ (firstC b o t i j k n j1 k1).flatMap (·.ours) = cutL2 o j j1 ∧ (firstC b o t i j k n j1 k1).flatMap (·.theirs) = cutL2 t k k1 := by
    unfold firstC
    split
    · simp [decideC_base, decideC_ours, decideC_theirs]
    · have a1 : i = n := by omega
      have a2 : j = j1 := by omega
      have a3 : k = k1 := by omega
      subst a1; subst a2; subst a3
      simp [cutL2_self]
  have f2 : (keptC b o t n j1 k1 m).flatMap (·.base) = cutL2 b n (n + m) ∧ (keptC b o t n j1 k1 m).flatMap (·.ours) = cutL2 o j1 (j1 + m) ∧ (keptC b o t n j1 k1 m).flatMap (·.theirs) = cutL2 t k1 (k1 + m) := by
    unfold keptC
    split
    · simp
    · have a1 : m = 0 := by omega
      subst a1
      simp [cutL2_self]
  rw [f1.1, f1.2.1, f1.2.2, f2.1, f2.2.1, f2.2.2, cutL2_drop b (by omega), cutL2_drop o (by omega), cutL2_drop t (by omega), cutL2_drop b hn, cutL2_drop o hj, cutL2_drop t hk]
  exact ⟨rfl, rfl, rfl⟩

/-- What each piece is. -/
theorem chunks_all {p q : List (Option Nat)} {b o t : List α} (hp : Places p b o) (hq : Places q b t) (G : Ck α → Prop)
    (first : ∀ i j k n j1 k1 m, Beh p o i j → Beh q t i k → Step p q b o t i j k n j1 k1 m → j ≤ j1 → k ≤ k1 → G (decideC (cutL2 b i n) (cutL2 o j j1) (cutL2 t k k1)))
    (kept : ∀ x : List α, x ≠ [] → G ⟨x, x, x, false, x⟩) : ∀ c ∈ chunks p q b o t (b.length + 1) 0 0 0, G c := by
  have := chunks_ind hp hq (fun i j k L => ∀ c ∈ L, G c) (by simp) ?_ (b.length + 1) 0 0 0 (.inl (by omega)) (Nat.zero_le _) (Beh.zero _ _) (Beh.zero _ _)
  · exact this
  · intro i j k n j1 k1 m L hi ha hb s he hL c hc
    obtain ⟨a1, a2, _⟩ := ha.step hp s
    obtain ⟨b1, b2, _⟩ := hb.step hq s.turn
    rw [List.mem_append, List.mem_append] at hc
    rcases hc with hc | hc | hc
    · unfold firstC at hc
      split at hc
      · rw [List.mem_singleton] at hc
        rw [hc]
        exact first i j k n j1 k1 m ha hb s a1 b1
      · cases hc
    · unfold keptC at hc
      split at hc
      · rw [List.mem_singleton] at hc
        rw [hc, ← run_eq hp s a2, ← run_eq hq s.turn b2]
        refine kept _ fun e => ?_
        have := congrArg List.length e
        rw [cutL2_len _ s.nm] at this
        simp at this
        omega
      · cases hc
    · exact hL c hc

/-- Whether a piece clashes is told by what it is. -/
theorem chunks_clash {p q : List (Option Nat)} {b o t : List α} (hp : Places p b o) (hq : Places q b t) : ∀ c ∈ chunks p q b o t (b.length + 1) 0 0 0, c.clash = true ↔ (c.out = [] ∧ c.ours ≠ c.base ∧ c.theirs ≠ c.base ∧ c.ours ≠ c.theirs) := by
  refine chunks_all hp hq _ ?_ ?_
  · intro i j k n j1 k1 m _ _ _ _ _
    unfold decideC
    split
    · rename_i h; simp [h]
    · rename_i h
      split
      · rename_i h2
        simp
        intro _ _ h3
        rcases h2 with h2 | h2
        · exact absurd h2 h3
        · exact h2
      · rename_i h2
        rw [not_or] at h2
        simp [h, h2]
  · intro x hx
    simp

end Go.Proofs.YtdpoeagmeiedcaaDoor
namespace Go.Proofs.YtdpoeagmeiedcaaDoor
variable {α : Type} [DecidableEq α]

theorem ed_self (b : List α) : ed b b = b.map fun x => (1, x) := by
  induction b with
  | nil => rfl
  | cons x b ih => rw [ed_cons, if_pos rfl, ih]; rfl

/-- Pieces where the third text lies as the first one does. -/
theorem sides_theirs {p q : List (Option Nat)} {b o : List α} (hp : Places p b o) (hq : Places q b b) (hid : ∀ i j : Nat, q[i]? = some (some j) → j = i) : ∀ c ∈ chunks p q b o b (b.length + 1) 0 0 0, c.clash = false ∧ c.out = c.ours := by
  refine chunks_ind hp hq (fun i _ k L => k = i → ∀ c ∈ L, c.clash = false ∧ c.out = c.ours) (by simp) ?_ (b.length + 1) 0 0 0 (.inl (by omega)) (Nat.zero_le _) (Beh.zero _ _) (Beh.zero _ _) rfl
  intro i j k n j1 k1 m L hi ha hb s he hL hk c hc
  subst hk
  have hk1 : k1 = n := by
    by_cases hn : n < b.length
    · exact hid _ _ (s.yes hn).2
    · have := s.nb; have := (s.fin (by omega)).2.1; omega
  subst hk1
  obtain ⟨_, a2, _⟩ := ha.step hp s
  rw [List.mem_append, List.mem_append] at hc
  rcases hc with hc | hc | hc
  · unfold firstC at hc
    split at hc
    · rw [List.mem_singleton] at hc
      rw [hc]
      unfold decideC
      split
      · rename_i h; exact ⟨rfl, h.symm⟩
      · rw [if_pos (.inl rfl)]; exact ⟨rfl, rfl⟩
    · cases hc
  · unfold keptC at hc
    split at hc
    · rw [List.mem_singleton] at hc
      rw [hc]
      exact ⟨rfl, run_eq hp s a2⟩
    · cases hc
  · exact hL rfl c hc

theorem sides_ours {p q : List (Option Nat)} {b t : List α} (hp : Places p b b) (hq : Places q b t) (hid : ∀ i j : Nat, p[i]? = some (some j) → j = i) : ∀ c ∈ chunks p q b b t (b.length + 1) 0 0 0, c.clash = false ∧ c.out = c.theirs := by
  refine chunks_ind hp hq (fun i j _ L => j = i → ∀ c ∈ L, c.clash = false ∧ c.out = c.theirs) (by simp) ?_ (b.length + 1) 0 0 0 (.inl (by omega)) (Nat.zero_le _) (Beh.zero _ _) (Beh.zero _ _) rfl
  intro i j k n j1 k1 m L hi ha hb s he hL hk c hc
  subst hk
  have hk1 : j1 = n := by
    by_cases hn : n < b.length
    · exact hid _ _ (s.yes hn).1
    · have := s.nb; have := (s.fin (by omega)).1; omega
  subst hk1
  obtain ⟨_, b2, _⟩ := hb.step hq s.turn
  rw [List.mem_append, List.mem_append] at hc
  rcases hc with hc | hc | hc
  · unfold firstC at hc
    split at hc
    · rw [List.mem_singleton] at hc
      rw [hc]
      unfold decideC
      rw [if_pos rfl]
      exact ⟨rfl, rfl⟩
    · cases hc
  · unfold keptC at hc
    split at hc
    · rw [List.mem_singleton] at hc
      rw [hc]
      exact ⟨rfl, run_eq hq s.turn b2⟩
    · cases hc
  · exact hL rfl c hc

theorem sides_both {p : List (Option Nat)} {b o : List α} (hp : Places p b o) : ∀ c ∈ chunks p p b o o (b.length + 1) 0 0 0, c.clash = false ∧ c.out = c.ours := by
  refine chunks_ind hp hp (fun _ j k L => k = j → ∀ c ∈ L, c.clash = false ∧ c.out = c.ours) (by simp) ?_ (b.length + 1) 0 0 0 (.inl (by omega)) (Nat.zero_le _) (Beh.zero _ _) (Beh.zero _ _) rfl
  intro i j k n j1 k1 m L hi ha hb s he hL hk c hc
  subst hk
  have hk1 : k1 = j1 := by
    by_cases hn : n < b.length
    · have h1 := (s.yes hn).1
      have h2 := (s.yes hn).2
      rw [h1] at h2
      injection h2 with h2
      injection h2 with h2
      exact h2.symm
    · have := s.nb; have := s.fin (by omega); omega
  subst hk1
  obtain ⟨_, a2, _⟩ := ha.step hp s
  rw [List.mem_append, List.mem_append] at hc
  rcases hc with hc | hc | hc
  · unfold firstC at hc
    split at hc
    · rw [List.mem_singleton] at hc
      rw [hc]
      unfold decideC
      split
      · exact ⟨rfl, rfl⟩
      · rw [if_pos (.inr rfl)]; exact ⟨rfl, rfl⟩
    · cases hc
  · unfold keptC at hc
    split at hc
    · rw [List.mem_singleton] at hc
      rw [hc]
      exact ⟨rfl, run_eq hp s a2⟩
    · cases hc
  · exact hL rfl c hc

/-- A piece with its sides turned. -/
def turnC (c : Ck α) : Ck α := ⟨c.base, c.theirs, c.ours, c.clash, c.out⟩

theorem decideC_turn (x y z : List α) : decideC x z y = turnC (decideC x y z) := by
  unfold decideC turnC
  by_cases h1 : y = x
  · by_cases h2 : z = x
    · simp [h1, h2]
    · simp [h1, h2]
  · by_cases h2 : z = x
    · simp [h1, h2]
    · by_cases h3 : y = z
      · simp [h3, h2]
      · simp [h1, h2, h3]
        exact fun e => h3 e.symm

theorem chunks_turn (p q : List (Option Nat)) (b o t : List α) : ∀ f i j k, chunks q p b t o f i k j = (chunks p q b o t f i j k).map turnC := by
  have hK : isK q p = isK p q := by funext x; unfold isK; rw [Bool.and_comm]
  have hR : ∀ n j k, isRun q p n k j = isRun p q n j k := by intro n j k; funext x; unfold isRun; rw [Bool.and_comm]
  intro f
  induction f with
  | zero => intro i j k; rfl
  | succ f ih =>
    intro i j k
    by_cases he : i = b.length ∧ j = o.length ∧ k = t.length
    · rw [chunks_end _ _ _ _ _ _ _ _ _ he, chunks_end _ _ _ _ _ _ _ _ _ ⟨he.1, he.2.2, he.2.1⟩]
      rfl
    · rw [chunks_step p q b o t f i j k _ _ _ _ rfl rfl rfl rfl he, chunks_step q p b t o f i k j _ _ _ _ rfl rfl rfl rfl (fun h => he ⟨h.1, h.2.2, h.2.1⟩), hK, hR]
      rw [List.map_append, List.map_append, ih]
      congr 1
      · unfold firstC
        by_cases h : i < nx (isK p q) (b.length - i) i ∨ j < atD p (nx (isK p q) (b.length - i) i) o.length ∨ k < atD q (nx (isK p q) (b.length - i) i) t.length
        · rw [if_pos h, if_pos (by rcases h with h | h | h <;> simp [h]), decideC_turn]
          rfl
        · rw [if_neg h, if_neg (by intro h'; rcases h' with h' | h' | h' <;> simp [h'] at h)]
          rfl
      · congr 1
        unfold keptC
        split <;> rfl

/-! ### Two changes far from each other -/

theorem lc_self (b : List α) : lc b b = b.length := Nat.le_antisymm (lc_le_left b b) (lc_ge b b b (List.Sublist.refl _) (List.Sublist.refl _))

theorem ed_ahead {x a : α} {R : List α} (hx : x ≠ a) (hR : a ∉ R) : ed (x :: R) (a :: R) = (2, x) :: (3, a) :: R.map fun y => (1, y) := by
  rw [ed_cons, if_neg hx]
  have h1 := lc_le_right (x :: R) R
  have h2 := lc_ge R R (a :: R) (List.Sublist.refl _) (List.sublist_cons_self _ _)
  rw [if_pos (by omega)]
  congr 1
  cases R with
  | nil => rfl
  | cons r R =>
    have hr : r ≠ a := fun e => hR (by simp [e])
    have h3 := lc_self (r :: R)
    have h4 := lc_le_left R (a :: r :: R)
    simp only [List.length_cons] at h3
    rw [ed_cons, if_neg hr, if_neg (by omega), ed_self]

theorem ed_behind {y c : α} (hy : y ≠ c) (L : List α) : ed (L ++ [y]) (L ++ [c]) = (L.map fun x => (1, x)) ++ [(2, y), (3, c)] := by
  induction L with
  | nil =>
    simp only [List.nil_append, List.map_nil]
    rw [ed_cons, if_neg hy, lc_nil_right, if_pos (Nat.zero_le _)]
    rfl
  | cons x L ih =>
    simp only [List.cons_append, List.map_cons]
    rw [ed_cons, if_pos rfl, ih]

omit [DecidableEq α] in
theorem pls_keep (L : List α) (l : List (Nat × α)) : ∀ a i, (pls ((L.map fun x => (1, x)) ++ l) a)[i]? = if i < L.length then some (some (a + i)) else (pls l (a + L.length))[i - L.length]? := by
  induction L with
  | nil => intro a i; simp
  | cons x L ih =>
    intro a i
    simp only [List.map_cons, List.cons_append, pls, if_true]
    cases i with
    | zero => simp
    | succ i =>
      rw [List.getElem?_cons_succ, ih]
      simp only [List.length_cons]
      by_cases h : i < L.length
      · rw [if_pos h, if_pos (by omega)]; congr 2; omega
      · rw [if_neg h, if_neg (by omega), show a + 1 + L.length = a + (L.length + 1) by omega, show i + 1 - (L.length + 1) = i - L.length by omega]

/-- What comes of two changes, one ahead of the lines between and one behind them. -/
theorem far_out {x a y c : α} {mid : List α} (hm : mid ≠ []) {p q : List (Option Nat)} (hp : Places p (x :: (mid ++ [y])) (a :: (mid ++ [y]))) (hq : Places q (x :: (mid ++ [y])) (x :: (mid ++ [c])))
    (p1 : ∀ i, 1 ≤ i → i ≤ mid.length + 1 → p[i]? = some (some i)) (p0 : ∀ j : Nat, p[0]? ≠ some (some j))
    (q1 : ∀ i, i ≤ mid.length → q[i]? = some (some i)) (q0 : ∀ j : Nat, q[mid.length + 1]? ≠ some (some j)) :
    (∀ d ∈ chunks p q (x :: (mid ++ [y])) (a :: (mid ++ [y])) (x :: (mid ++ [c])) (mid.length + 3) 0 0 0, d.clash = false) ∧
    (chunks p q (x :: (mid ++ [y])) (a :: (mid ++ [y])) (x :: (mid ++ [c])) (mid.length + 3) 0 0 0).flatMap (·.out) = a :: (mid ++ [c]) := by
  have hlen : (x :: (mid ++ [y])).length = mid.length + 2 := by simp
  have hlo : (a :: (mid ++ [y])).length = mid.length + 2 := by simp
  have hlt : (x :: (mid ++ [c])).length = mid.length + 2 := by simp
  have hml : 0 < mid.length := List.length_pos_iff.2 hm
  have T1 : ∀ i, 1 ≤ i → (a :: (mid ++ [c]))[i]? = (x :: (mid ++ [c]))[i]? := by intro i hi; obtain ⟨i, rfl⟩ : ∃ z, i = z + 1 := ⟨i - 1, by omega⟩; rfl
  have O1 : ∀ i, 1 ≤ i → (a :: (mid ++ [y]))[i]? = (x :: (mid ++ [y]))[i]? := by intro i hi; obtain ⟨i, rfl⟩ : ∃ z, i = z + 1 := ⟨i - 1, by omega⟩; rfl
  have B1 : ∀ i, i ≤ mid.length → (x :: (mid ++ [c]))[i]? = (x :: (mid ++ [y]))[i]? := by
    intro i hi
    cases i with
    | zero => rfl
    | succ i => simp only [List.getElem?_cons_succ]; rw [List.getElem?_append_left (by omega), List.getElem?_append_left (by omega)]
  have main := chunks_ind hp hq (fun i j k L => j = i → k = i → (∀ d ∈ L, d.clash = false) ∧ L.flatMap (·.out) = (a :: (mid ++ [c])).drop i) (fun _ _ => ⟨by simp, by rw [hlen]; simp⟩) ?_ (mid.length + 3) 0 0 0 (.inl (by rw [hlen]; omega)) (Nat.zero_le _) (Beh.zero _ _) (Beh.zero _ _) rfl rfl
  · exact main
  · intro i j k n j1 k1 m L hi ha hb s he hL hj hk
    subst hj
    subst hk
    have hnb := s.nb
    rw [hlen] at hnb
    have hj1 : j1 = n := by
      by_cases hn : n < mid.length + 2
      · have h1 := (s.yes (by rw [hlen]; exact hn)).1
        by_cases h0 : n = 0
        · subst h0; exact absurd h1 (p0 _)
        · rw [p1 n (by omega) (by omega)] at h1
          injection h1 with h1
          injection h1 with h1
          exact h1.symm
      · have := (s.fin (by rw [hlen]; omega)).1; rw [hlo] at this; omega
    have hk1 : k1 = n := by
      by_cases hn : n < mid.length + 2
      · have h1 := (s.yes (by rw [hlen]; exact hn)).2
        by_cases h0 : n = mid.length + 1
        · subst h0; exact absurd h1 (q0 _)
        · rw [q1 n (by omega)] at h1
          injection h1 with h1
          injection h1 with h1
          exact h1.symm
      · have := (s.fin (by rw [hlen]; omega)).2.1; rw [hlt] at this; omega
    subst hj1
    subst hk1
    obtain ⟨l1, l2⟩ := hL rfl rfl
    have hin := s.le
    have hnm := s.nm
    rw [hlen] at hnm
    have hkept : ∀ z, 1 ≤ z → z ≤ mid.length → isK p q z = true := by
      intro z h1 h2
      unfold isK
      rw [p1 z h1 (by omega), q1 z h2]
      rfl
    -- the piece that is not kept
    have hfirst : (∀ d ∈ firstC (x :: (mid ++ [y])) (a :: (mid ++ [y])) (x :: (mid ++ [c])) k k k k1 k1 k1, d.clash = false) ∧ (firstC (x :: (mid ++ [y])) (a :: (mid ++ [y])) (x :: (mid ++ [c])) k k k k1 k1 k1).flatMap (·.out) = cutL2 (a :: (mid ++ [c])) k k1 := by
      by_cases hlt' : k < k1
      · have hno := s.no k (Nat.le_refl _) hlt'
        have hcase : k = 0 ∨ k = mid.length + 1 := by
          by_cases h0 : k = 0
          · exact .inl h0
          · by_cases h1 : k ≤ mid.length
            · have := hkept k (by omega) h1; rw [this] at hno; cases hno
            · right; omega
        unfold firstC
        rw [if_pos (.inl hlt')]
        rcases hcase with rfl | rfl
        · have hk1' : k1 = 1 := by
            by_cases h1 : k1 = 1
            · exact h1
            · have := s.no 1 (by omega) (by omega)
              rw [hkept 1 (by omega) (by omega)] at this
              cases this
          subst hk1'
          simp only [cutL2, decideC, List.drop_zero, Nat.sub_zero, List.take_succ_cons, List.take_zero]
          by_cases hax : a = x
          · simp [hax]
          · simp [hax]
        · have hk1' : k1 = mid.length + 2 := by omega
          subst hk1'
          have e1 : cutL2 (a :: (mid ++ [y])) (mid.length + 1) (mid.length + 2) = [y] := by simp [cutL2]
          have e2 : cutL2 (x :: (mid ++ [y])) (mid.length + 1) (mid.length + 2) = [y] := by simp [cutL2]
          have e3 : cutL2 (x :: (mid ++ [c])) (mid.length + 1) (mid.length + 2) = [c] := by simp [cutL2]
          have e4 : cutL2 (a :: (mid ++ [c])) (mid.length + 1) (mid.length + 2) = [c] := by simp [cutL2]
          rw [e1, e2, e3, e4]
          simp [decideC]
      · have : k = k1 := by omega
        subst this
        simp [firstC, cutL2_self]
    have hsecond : (∀ d ∈ keptC (x :: (mid ++ [y])) (a :: (mid ++ [y])) (x :: (mid ++ [c])) k1 k1 k1 m, d.clash = false) ∧ (keptC (x :: (mid ++ [y])) (a :: (mid ++ [y])) (x :: (mid ++ [c])) k1 k1 k1 m).flatMap (·.out) = cutL2 (a :: (mid ++ [c])) k1 (k1 + m) := by
      by_cases hm0 : 0 < m
      · unfold keptC
        rw [if_pos hm0]
        refine ⟨by simp, ?_⟩
        simp only [List.flatMap_cons, List.flatMap_nil, List.append_nil]
        apply List.ext_getElem?
        intro z
        by_cases hz : z < m
        · rw [cutL2_at _ _ _ _ (by omega), cutL2_at _ _ _ _ (by omega)]
          have hr := s.run z hz
          have hne0 : k1 + z ≠ 0 := fun e => by rw [e] at hr; exact p0 _ hr.1
          have hne1 : k1 + z ≠ mid.length + 1 := fun e => by rw [e] at hr; exact q0 _ hr.2
          rw [T1 _ (by omega), B1 _ (by omega)]
        · rw [List.getElem?_eq_none (by rw [cutL2_len _ s.nm]; omega), List.getElem?_eq_none (by rw [cutL2_len _ (by simp; omega)]; omega)]
      · have : m = 0 := by omega
        subst this
        simp [keptC, cutL2_self]
    refine ⟨fun d hd => ?_, ?_⟩
    · rw [List.mem_append, List.mem_append] at hd
      rcases hd with hd | hd | hd
      · exact hfirst.1 d hd
      · exact hsecond.1 d hd
      · exact l1 d hd
    · rw [List.flatMap_append, List.flatMap_append, hfirst.2, hsecond.2, l2, cutL2_drop _ (by omega), cutL2_drop _ hin]

end Go.Proofs.YtdpoeagmeiedcaaDoor
namespace Go.Proofs.YtdpoeagmeiedcaaDoor
open Go.RowKit

def pz : Option Nat → Value
  | some j => .int .i64 (j : Int)
  | none => .int .i64 (-1)
def Pl (w : World) (v : Value) (p : List (Option Nat)) : Prop := w.ownsRow 0 3 1 v p.length (p.map pz)

theorem Pl.cell {w : World} {v : Value} {p : List (Option Nat)} (h : Pl w v p) {i : Nat} {x : Option Nat} (hi : p[i]? = some x) : ∃ g c, v = .slice (some ⟨g, 0, none⟩) p.length c ∧ w.cell? ⟨g, i, none⟩ = some (pz x) := by
  have hl := (List.getElem?_eq_some_iff.1 hi).1
  rcases id h.2 with ⟨_, h0⟩ | ⟨g, cap, cur, rfl, _⟩
  · omega
  · refine ⟨g, cap, rfl, ?_⟩
    rw [World.ownsRow.cellAt h i (by omega)]
    simp [hi]
theorem Pl.below {w w' : World} {v : Value} {p : List (Option Nat)} (h : Pl w v p) (hb : Below w.heap.size w w') : Pl w' v p := own_keep h hb

/-- The type of a block's cells. -/
def Ty (w : World) (g : Nat) (t : TypeId) : Prop := ∃ cur, w.heap[g]? = some (.cells cur t (0, 0))
theorem Ty.same {w w' : World} {g : Nat} {t : TypeId} (h : Ty w g t) (hb : w'.heap[g]? = w.heap[g]?) : Ty w' g t := by
  obtain ⟨cur, hc⟩ := h
  exact ⟨cur, hb.trans hc⟩
theorem Ty.lt {w : World} {g : Nat} {t : TypeId} (h : Ty w g t) : g < w.heap.size := by
  obtain ⟨cur, hc⟩ := h
  exact (Array.getElem?_eq_some_iff.1 hc).1
theorem Ty.ne {w : World} {a b : Nat} {s t : TypeId} (h : Ty w a s) (k : Ty w b t) (hne : s ≠ t) : a ≠ b := by
  obtain ⟨cur, hc⟩ := h
  obtain ⟨cur', hc'⟩ := k
  rintro rfl
  rw [hc] at hc'
  injection hc' with e
  injection e with _ e2
  exact hne e2
theorem Ty.set {w : World} {g : Nat} {t : TypeId} (h : Ty w g t) (b k : Nat) (v : Value) : Ty (w.setCell ⟨b, k, none⟩ v) g t := by
  obtain ⟨cur, hc⟩ := h
  by_cases e : g = b
  · subst e
    exact ⟨cur.setIfInBounds k v, by simp [World.setCell, Array.getElem?_modify, hc]⟩
  · exact ⟨cur, (Below.heap_setCell _ _ _ _ e).trans hc⟩
theorem own_ty {w : World} {base : Nat} {e : TypeId} {size n : Nat} {v : Value} {xs : List Value} (h : w.ownsRow base e size v n xs) {g : Nat} (hg : v.ownBlock = some g) : Ty w g e := by
  rcases h.2 with ⟨rfl, _⟩ | ⟨g', cap, cur, rfl, _, hgg, _⟩
  · simp [Value.ownBlock] at hg
  · simp [Value.ownBlock] at hg
    subst hg
    exact ⟨cur, hgg⟩
theorem own_apart {w : World} {base : Nat} {e t : TypeId} {size n : Nat} {v : Value} {xs : List Value} (h : w.ownsRow base e size v n xs) {g : Nat} (k : Ty w g t) (hne : e ≠ t) : v.ownBlock ≠ some g := fun hg => (own_ty h hg).ne k hne rfl

/-- The cutter's nine cells. -/
structure Cutr (w : World) (C : Nat) (v0 v1 v2 v3 v4 v5 v6 v7 v8 : Value) : Prop where
  c0 : w.cell? ⟨C, 0, none⟩ = some v0
  c1 : w.cell? ⟨C, 1, none⟩ = some v1
  c2 : w.cell? ⟨C, 2, none⟩ = some v2
  c3 : w.cell? ⟨C, 3, none⟩ = some v3
  c4 : w.cell? ⟨C, 4, none⟩ = some v4
  c5 : w.cell? ⟨C, 5, none⟩ = some v5
  c6 : w.cell? ⟨C, 6, none⟩ = some v6
  c7 : w.cell? ⟨C, 7, none⟩ = some v7
  c8 : w.cell? ⟨C, 8, none⟩ = some v8
  z : ∀ k : Nat, w.frozen? ⟨C, k, none⟩ = false
  ty : Ty w C 135

theorem Cutr.lt {w : World} {C : Nat} {v0 v1 v2 v3 v4 v5 v6 v7 v8 : Value} (h : Cutr w C v0 v1 v2 v3 v4 v5 v6 v7 v8) : C < w.heap.size := World.block_lt_of_cell? w _ h.c0
theorem Cutr.below {w w' : World} {C : Nat} {v0 v1 v2 v3 v4 v5 v6 v7 v8 : Value} (h : Cutr w C v0 v1 v2 v3 v4 v5 v6 v7 v8) (hb : Below w.heap.size w w') : Cutr w' C v0 v1 v2 v3 v4 v5 v6 v7 v8 := by
  have hc : ∀ k : Nat, w'.cell? ⟨C, k, none⟩ = w.cell? ⟨C, k, none⟩ := fun k => hb.cell (p := ⟨C, k, none⟩) h.lt
  exact ⟨(hc 0).trans h.c0, (hc 1).trans h.c1, (hc 2).trans h.c2, (hc 3).trans h.c3, (hc 4).trans h.c4, (hc 5).trans h.c5, (hc 6).trans h.c6, (hc 7).trans h.c7, (hc 8).trans h.c8, fun k => (hb.frozen (p := ⟨C, k, none⟩) h.lt).trans (h.z k), h.ty.same (hb.block C h.lt)⟩

theorem pz_nowhere (x : Option Nat) : ∃ z : Int, pz x = .int .i64 z ∧ (z != -1) = isSome2 (some x) := by
  cases x with
  | none => exact ⟨-1, rfl, rfl⟩
  | some j => exact ⟨j, rfl, by rw [show isSome2 (some (some j)) = true from rfl, bne_iff_ne]; omega⟩

set_option maxHeartbeats 1000000 in
theorem isKept_any (w : World) (C n c i : Nat) (A : Option Addr) (vo vt vp vq v5 v6 v7 v8 : Value) (p q : List (Option Nat)) (h : Cutr w C (.slice A n c) vo vt vp vq v5 v6 v7 v8) (hp : Pl w vp p) (hq : Pl w vq q) (lp : p.length = n) (lq : q.length = n) :
    Calls Tryd.prog 89 #[.pointer (some ⟨C, 0, none⟩), .int .i64 i] w fun e w' => e = .returned (.bool (isK p q i)) ∧ w = w' := by
  have t0 := h.c0
  have t3 := h.c3
  have t4 := h.c4
  have i0 : (0 : Int) ≤ (i : Int) := Int.natCast_nonneg _
  clear h
  by_cases hi : i < n
  · obtain ⟨x, hx⟩ : ∃ x, p[i]? = some x := ⟨_, List.getElem?_eq_getElem (by omega)⟩
    obtain ⟨y, hy⟩ : ∃ y, q[i]? = some y := ⟨_, List.getElem?_eq_getElem (by omega)⟩
    obtain ⟨g1, d1, rfl, k1⟩ := hp.cell hx
    obtain ⟨g2, d2, rfl, k2⟩ := hq.cell hy
    have i1 : (i : Int) < (n : Int) := by omega
    have i2 : (i : Int) < (p.length : Int) := by omega
    have i3 : (i : Int) < (q.length : Int) := by omega
    obtain ⟨zx, ex, fx⟩ := pz_nowhere x
    obtain ⟨zy, ey, fy⟩ := pz_nowhere y
    rw [ex] at k1
    rw [ey] at k2
    have HK : Hid (isK p q i = (isSome2 (some x) && isSome2 (some y))) := by unfold isK; rw [hx, hy]; rfl
    have LP := Lib.hid lp
    have LQ := Lib.hid lq
    clear hx hy hp hq ex ey lp lq
    cases h1 : isSome2 (some x) with
    | false =>
      rw [h1] at fx HK
      clear h1 fy
      go_enter Tryd.func89, Tryd.ntmps89
      go_wp2
      go_ret
      exact ⟨by rw [HK.out]; rfl, rfl⟩
    | true =>
      rw [h1] at fx HK
      cases h2 : isSome2 (some y) with
      | false =>
        rw [h2] at fy HK
        clear h1 h2
        go_enter Tryd.func89, Tryd.ntmps89
        go_wp2
        go_ret
        exact ⟨by rw [HK.out]; rfl, rfl⟩
      | true =>
        rw [h2] at fy HK
        clear h1 h2
        go_enter Tryd.func89, Tryd.ntmps89
        go_wp2
        go_ret
        exact ⟨by rw [HK.out]; rfl, rfl⟩
  · have HK : Hid (isK p q i = false) := by
      unfold isK
      rw [List.getElem?_eq_none (by omega)]
      rfl
    clear hp hq lp lq
    go_enter Tryd.func89, Tryd.ntmps89
    go_wp2
    go_ret
    exact ⟨by rw [HK.out]; rfl, rfl⟩

end Go.Proofs.YtdpoeagmeiedcaaDoor
namespace Go.Proofs.YtdpoeagmeiedcaaDoor
open Go.RowKit

theorem nx_fix (k : Nat → Bool) (f i : Nat) (h : k i = true) : nx k f i = i := by
  cases f with
  | zero => rfl
  | succ f => rw [nx, if_pos h]
theorem nx_next (k : Nat → Bool) (f i : Nat) (h : k i = false) (hf : 0 < f) : nx k f i = nx k (f - 1) (i + 1) := by
  obtain ⟨f, rfl⟩ : ∃ g, f = g + 1 := ⟨f - 1, by omega⟩
  rw [nx, if_neg (by simp [h])]
  rfl

set_option maxHeartbeats 1000000 in
theorem nextKept_any (w : World) (C n c i : Nat) (A : Option Addr) (vo vt vp vq v6 v7 v8 : Value) (p q : List (Option Nat)) (h : Cutr w C (.slice A n c) vo vt vp vq (.int .i64 (i : Int)) v6 v7 v8) (hp : Pl w vp p) (hq : Pl w vq q) (lp : p.length = n) (lq : q.length = n) (hn : n ≤ 1000) (hi : i ≤ n) :
    Calls Tryd.prog 67 #[.pointer (some ⟨C, 0, none⟩)] w fun e w' => e = .returned (.int .i64 (nx (isK p q) (n - i) i : Nat)) ∧ w = w' := by
  have IK := fun (m : Nat) => isKept_any w C n c m A vo vt vp vq (.int .i64 (i : Int)) v6 v7 v8 p q h hp hq lp lq
  have HIK := Lib.hid IK
  have t0 := h.c0
  have t5 := h.c5
  clear h hp hq lp lq IK
  go_enter Tryd.func67, Tryd.ntmps67
  go_wp2
  go_loop [3] (fun s3 => ∃ m : Nat, m ≤ n ∧ s3 = .int .i64 m ∧ Hid (nx (isK p q) (n - m) m = nx (isK p q) (n - i) i)) (fun s3 => n - (intOf s3).toNat)
  case atStart => exact ⟨i, hi, rfl, rfl⟩
  case round =>
    obtain ⟨m, hm, rfl, hx⟩ := hrel
    have m0 : (0 : Int) ≤ (m : Int) := Int.natCast_nonneg _
    by_cases hlt : m < n
    · cases hk : isK p q m with
      | true =>
        have HF := Lib.hid (nx_fix (isK p q) (n - m) m hk)
        have IKm := HIK.out m
        rw [hk] at IKm
        have HIKm := Lib.hid IKm
        clear hk IKm
        go_wp2_with fail
        refine HIKm.out.mono ?_
        rintro e w' ⟨rfl, rfl⟩
        go_wp2
        go_ret
        exact ⟨congrArg (fun z : Nat => Ending.returned (.int .i64 (z : Int))) (HF.out.symm.trans hx.out), rfl⟩
      | false =>
        have HF := Lib.hid (nx_next (isK p q) (n - m) m hk (by omega))
        have IKm := HIK.out m
        rw [hk] at IKm
        have HIKm := Lib.hid IKm
        clear hk IKm
        go_wp2_with fail
        refine HIKm.out.mono ?_
        rintro e w' ⟨rfl, rfl⟩
        go_wp2
        go_round
        case rel => exact ⟨m + 1, by omega, by go_num, by have := HF.out.symm.trans hx.out; rw [show n - m - 1 = n - (m + 1) by omega] at this; exact this⟩
        case measure => simp [intOf]; omega
    · obtain rfl : m = n := by omega
      have HF : Hid (nx (isK p q) (m - m) m = m) := by rw [Nat.sub_self]; rfl
      go_wp2
      go_ret
      exact ⟨congrArg (fun z : Nat => Ending.returned (.int .i64 (z : Int))) (HF.out.symm.trans hx.out), rfl⟩

/-- A bool; at most draws. -/
def Says (b : Bool) (w : World) (e : Ending) (w' : World) : Prop := ∃ q, e = .returned (.bool b) ∧ w' = w.drewN q

set_option maxHeartbeats 1000000 in
theorem ended_any (w : World) (C n c m d r f i j k : Nat) (A B D : Option Addr) (vp vq v8 : Value) (h : Cutr w C (.slice A n c) (.slice B m d) (.slice D r f) vp vq (.int .i64 (i : Int)) (.int .i64 (j : Int)) (.int .i64 (k : Int)) v8) :
    Calls Tryd.prog 65 #[.pointer (some ⟨C, 0, none⟩)] w (Says (decide (i = n ∧ j = m ∧ k = r)) w) := by
  have t0 := h.c0
  have t1 := h.c1
  have t2 := h.c2
  have t5 := h.c5
  have t6 := h.c6
  have t7 := h.c7
  clear h
  by_cases h1 : i = n
  · have b1 : ((i : Int) == (n : Int)) = true := by rw [beq_iff_eq]; omega
    by_cases h2 : j = m
    · have b2 : ((j : Int) == (m : Int)) = true := by rw [beq_iff_eq]; omega
      by_cases h3 : k = r
      · have b3 : ((k : Int) == (r : Int)) = true := by rw [beq_iff_eq]; omega
        have HD := Lib.hid (decide_eq_true (show i = n ∧ j = m ∧ k = r from ⟨h1, h2, h3⟩))
        clear h1 h2 h3
        go_enter Tryd.func65, Tryd.ntmps65
        go_wp2_with fail
        go_quiet (fail)
        go_wp2
        go_ret
        exact ⟨_, by rw [HD.out]; rfl, rfl⟩
      · have b3 : ((k : Int) == (r : Int)) = false := by rw [beq_eq_false_iff_ne]; omega
        have HD := Lib.hid (decide_eq_false (show ¬(i = n ∧ j = m ∧ k = r) from fun e => h3 e.2.2))
        clear h1 h2 h3
        go_enter Tryd.func65, Tryd.ntmps65
        go_wp2_with fail
        go_quiet (fail)
        go_wp2
        go_ret
        exact ⟨_, by rw [HD.out]; rfl, rfl⟩
    · have b2 : ((j : Int) == (m : Int)) = false := by rw [beq_eq_false_iff_ne]; omega
      have HD := Lib.hid (decide_eq_false (show ¬(i = n ∧ j = m ∧ k = r) from fun e => h2 e.2.1))
      clear h1 h2
      go_enter Tryd.func65, Tryd.ntmps65
      go_wp2_with fail
      go_quiet (fail)
      go_wp2
      go_ret
      exact ⟨_, by rw [HD.out]; rfl, rfl⟩
  · have b1 : ((i : Int) == (n : Int)) = false := by rw [beq_eq_false_iff_ne]; omega
    have HD := Lib.hid (decide_eq_false (show ¬(i = n ∧ j = m ∧ k = r) from fun e => h1 e.1))
    clear h1
    go_enter Tryd.func65, Tryd.ntmps65
    go_wp2_with fail
    go_quiet (fail)
    go_wp2
    go_ret
    exact ⟨_, by rw [HD.out]; rfl, rfl⟩

end Go.Proofs.YtdpoeagmeiedcaaDoor
namespace Go.Proofs.YtdpoeagmeiedcaaDoor
open Go.RowKit

theorem pls_snoc {α : Type} (k : Nat) (x : α) : ∀ (l : List (Nat × α)) (a : Nat), (∀ e ∈ l, e.1 = 1 ∨ e.1 = 2 ∨ e.1 = 3) → pls (l ++ [(k, x)]) a = pls l a ++ (if k = 1 then [some (a + (edB l).length)] else if k = 2 then [none] else []) := by
  intro l
  induction l with
  | nil => intro a _; simp [pls, edB]
  | cons e l ih =>
    intro a h
    obtain ⟨op, y⟩ := e
    have ih := fun a => ih a (fun e he => h e (List.mem_cons_of_mem _ he))
    have hk := h (op, y) (List.mem_cons_self ..)
    simp only at hk
    have e1 : ∀ n : Nat, a + 1 + n = a + (n + 1) := fun n => by omega
    have e2 : ∀ n : Nat, a + (n + 1) = a + 1 + n := fun n => by omega
    clear e1
    rcases hk with rfl | rfl | rfl
    all_goals
      by_cases h1 : k = 1
      · subst h1
        simp [pls, edB_cons, ih]
        try exact (e2 _).symm
      · by_cases h2 : k = 2
        · subst h2
          simp [pls, ih]
        · simp [pls, ih, h1, h2]

theorem edB_take' (l : List (Nat × ByteArray)) (k : Nat) {op : Nat} {s : ByteArray} (h : l[k]? = some (op, s)) : (edB (l.take (k + 1))).length = (edB (l.take k)).length + (if op = 2 then 0 else 1) := by
  rw [List.take_add_one, h]
  unfold edB
  rw [List.filter_append, List.map_append, List.length_append]
  congr 1
  by_cases e : op = 2 <;> simp [e]

theorem pls_take (l : List (Nat × ByteArray)) (hops : ∀ e ∈ l, e.1 = 1 ∨ e.1 = 2 ∨ e.1 = 3) (k : Nat) {op : Nat} {s : ByteArray} (h : l[k]? = some (op, s)) :
    pls (l.take (k + 1)) 0 = pls (l.take k) 0 ++ (if op = 1 then [some (edB (l.take k)).length] else if op = 2 then [none] else []) := by
  rw [List.take_add_one, h]
  have := pls_snoc op s (l.take k) 0 (fun e he => hops e (List.mem_of_mem_take he))
  rw [Nat.zero_add] at this
  exact this

theorem edB_len' (l : List (Nat × ByteArray)) (k : Nat) : (edB (l.take k)).length ≤ k := by
  unfold edB
  rw [List.length_map]
  have := List.length_filter_le (fun e : Nat × ByteArray => e.1 != 2) (l.take k)
  rw [List.length_take] at this
  omega
theorem pls_len' (l : List (Nat × ByteArray)) : ∀ a, (pls l a).length ≤ l.length := by
  induction l with
  | nil => intro a; simp [pls]
  | cons e l ih =>
    intro a
    simp only [pls]
    split
    · simp only [List.length_cons]; have := ih (a + 1); omega
    · split
      · simp only [List.length_cons]; have := ih a; omega
      · have := ih (a + 1); simp only [List.length_cons]; omega

theorem edCells_atM {l : List (Nat × ByteArray)} : ∀ {i k : Nat} {s : ByteArray}, l[i]? = some (k, s) → (edCells l)[i * 2]? = some (.int .i64 (k : Int)) ∧ (edCells l)[i * 2 + 1]? = some (.string s) := by
  induction l with
  | nil => intro i k s h; simp at h
  | cons x l ih =>
    intro i k s h
    have hc : edCells (x :: l) = .int .i64 (x.1 : Int) :: .string x.2 :: edCells l := rfl
    rw [hc]
    cases i with
    | zero => simp at h; subst h; exact ⟨rfl, rfl⟩
    | succ i =>
      rw [show (i + 1) * 2 = i * 2 + 1 + 1 by omega]
      simp only [List.getElem?_cons_succ] at h ⊢
      exact ih h

theorem own2_atM {w : World} {base g cap : Nat} {e : TypeId} {n : Nat} {xs : List Value} (h : w.ownsRow base e 2 (.slice (some ⟨g, 0, none⟩) n cap) n xs) {i : Nat} {x : Value} (hi : xs[i]? = some x) : w.cell? ⟨g, i, none⟩ = some x := by
  rw [h.cellAt i (by rw [← h.1]; exact (List.getElem?_eq_some_iff.1 hi).1)]
  exact hi

theorem intInfo3 : (Tryd.prog.info? 3).map (fun i => (i.zero, i.size, i.bytes)) = some (some (.int .i64 0), 1, 8) := by kernel_rfl

/-- The places come back in a row of the call's own. -/
def Placed (w : World) (p : List (Option Nat)) (e : Ending) (w' : World) : Prop := ∃ v, e = .returned v ∧ w'.ownsRow w.heap.size 3 1 v p.length (p.map pz) ∧ Below w.heap.size w w'

set_option maxRecDepth 100000 in
set_option maxHeartbeats 4000000 in
theorem places_any (w : World) (base : Nat) (v : Value) (l : List (Nat × ByteArray)) (h : w.ownsRow base 66 2 v l.length (edCells l)) (hl : l.length ≤ 600) (hops : ∀ e ∈ l, e.1 = 1 ∨ e.1 = 2 ∨ e.1 = 3) :
    Calls Tryd.prog 64 #[v] w (Placed w (pls l 0)) := by
  have HH := Lib.hid h
  have HOP := Lib.hid hops
  obtain ⟨i0, hi, hz0, hz1, hz2⟩ := info_parts intInfo3
  obtain ⟨A, m, c, rfl⟩ : ∃ A m c, v = .slice A m c := by
    rcases h.2 with ⟨rfl, _⟩ | ⟨g, cap, cur, rfl, _⟩
    · exact ⟨_, _, _, rfl⟩
    · exact ⟨_, _, _, rfl⟩
  obtain rfl : m = l.length := by
    rcases h.2 with ⟨e, e2⟩ | ⟨g, cap, cur, e, _⟩
    · cases e; exact e2.symm
    · cases e; rfl
  clear h hops
  go_enter Tryd.func64, Tryd.ntmps64
  go_wp2
  go_loopw [3, 4, 9] (fun s3 s4 s9 wr => ∃ k : Nat, k ≤ l.length ∧ s9 = .int .i64 k ∧ s4 = .int .i64 ((edB (l.take k)).length : Nat) ∧ wr.ownsRow w.heap.size 3 1 s3 (pls (l.take k) 0).length ((pls (l.take k) 0).map pz) ∧ Below w.heap.size w wr) (fun _ _ s9 _ => l.length - (intOf s9).toNat)
  case atStart => exact ⟨0, Nat.zero_le _, rfl, rfl, World.ownsRow_nil _ _ _ _, Below.refl _ _⟩
  case round =>
    obtain ⟨k, hk, rfl, rfl, hown, hb⟩ := hrel
    have k0 : (0 : Int) ≤ (k : Int) := Int.natCast_nonneg _
    have lB := edB_len' l k
    have lP := pls_len' (l.take k) 0
    rw [List.length_take] at lP
    by_cases hlt : k < l.length
    · obtain ⟨⟨op, s⟩, hs⟩ : ∃ x, l[k]? = some x := ⟨_, List.getElem?_eq_getElem hlt⟩
      have ho := own2_keep HH.out hb
      obtain ⟨g, rfl⟩ : ∃ g, A = some ⟨g, 0, none⟩ := by
        rcases ho.2 with ⟨_, e2⟩ | ⟨g, cap, cur, e, _⟩
        · omega
        · cases e; exact ⟨_, rfl⟩
      have k1 : (k : Int) < (l.length : Int) := by omega
      obtain ⟨x1, x2⟩ := edCells_atM hs
      have c1 := own2_atM ho x1
      have c2 := own2_atM ho x2
      have eB := Lib.hid (edB_take' l k hs)
      have eP := Lib.hid (pls_take l HOP.out k hs)
      have hop := HOP.out _ (List.mem_of_getElem? hs)
      simp only at hop
      clear ho x1 x2 hs
      generalize hq : (edB (l.take k)).length = q at *
      generalize hP : pls (l.take k) 0 = P at *
      clear hq hP
      rcases hop with rfl | rfl | rfl
      · have hown4 := (hown.alloc (.cells #[.int .i64 1, .string s] 66)).alloc (.cells #[.int .i64 (q : Int)] 3)
        have hnews := World.news_of_block (cs := #[.int .i64 (q : Int)]) (t := 3) (fr := (0, 0)) (heap_alloc_new (wr.alloc (.cells #[.int .i64 1, .string s] 66)) (.cells #[.int .i64 (q : Int)] 3))
        rw [show (wr.alloc (.cells #[.int .i64 1, .string s] 66)).heap.size = wr.heap.size + 1 from by simp] at hnews
        have hb4 := (hb.alloc hb.size (.cells #[.int .i64 1, .string s] 66)).alloc (by have := hb.size; simp; omega) (.cells #[.int .i64 (q : Int)] 3)
        have hsz4 := hb4.size
        go_wp2_with (at_builtin; refine wpList_append_own _ rfl _ _ 82 rfl w.heap.size 3 i0 (.int .i64 0) 1 8 Tryd.underlying82 hi hz0 hz1 hz2 rfl (by decide) _ _ _ rfl hown4 ⟨wr.heap.size + 1, 0, none⟩ 1 1 [.int .i64 (q : Int)] rfl rfl hnews (by simp [Value.oneCell']) (by unfold maxLen; omega) (by omega) hsz4 ?_; intro v5 w5 hown5 hg5 _; have hb5 : Below w.heap.size w w5 := hb4.grown hg5 hsz4 (fun z hz => (hown.lt z hz).1); clear hnews hown4 hg5 hb4)
        go_roundw
        case rel => exact ⟨k + 1, by omega, by go_num, by rw [eB.out, if_neg (by omega)]; go_num, by rw [eP.out, if_pos rfl, List.length_append, List.map_append]; exact hown5, hb5⟩
        case measure => simp [intOf]; omega
      · have hown4 := (hown.alloc (.cells #[.int .i64 2, .string s] 66)).alloc (.cells #[.int .i64 (-1)] 3)
        have hnews := World.news_of_block (cs := #[.int .i64 (-1)]) (t := 3) (fr := (0, 0)) (heap_alloc_new (wr.alloc (.cells #[.int .i64 2, .string s] 66)) (.cells #[.int .i64 (-1)] 3))
        rw [show (wr.alloc (.cells #[.int .i64 2, .string s] 66)).heap.size = wr.heap.size + 1 from by simp] at hnews
        have hb4 := (hb.alloc hb.size (.cells #[.int .i64 2, .string s] 66)).alloc (by have := hb.size; simp; omega) (.cells #[.int .i64 (-1)] 3)
        have hsz4 := hb4.size
        go_wp2_with (at_builtin; refine wpList_append_own _ rfl _ _ 82 rfl w.heap.size 3 i0 (.int .i64 0) 1 8 Tryd.underlying82 hi hz0 hz1 hz2 rfl (by decide) _ _ _ rfl hown4 ⟨wr.heap.size + 1, 0, none⟩ 1 1 [.int .i64 (-1)] rfl rfl hnews (by simp [Value.oneCell']) (by unfold maxLen; omega) (by omega) hsz4 ?_; intro v5 w5 hown5 hg5 _; have hb5 : Below w.heap.size w w5 := hb4.grown hg5 hsz4 (fun z hz => (hown.lt z hz).1); clear hnews hown4 hg5 hb4)
        go_roundw
        case rel => exact ⟨k + 1, by omega, by go_num, by rw [eB.out, if_pos rfl]; rfl, by rw [eP.out, if_neg (by omega), if_pos rfl, List.length_append, List.map_append]; exact hown5, hb5⟩
        case measure => simp [intOf]; omega
      · go_wp2
        go_roundw
        case rel => exact ⟨k + 1, by omega, by go_num, by rw [eB.out, if_neg (by omega)]; go_num, by rw [eP.out, if_neg (by omega), if_neg (by omega), List.append_nil]; exact hown.alloc _, hb.alloc hb.size _⟩
        case measure => simp [intOf]; omega
    · obtain rfl : k = l.length := by omega
      rw [List.take_length] at hown
      go_wp2
      go_ret
      exact ⟨u3, rfl, hown, hb⟩

end Go.Proofs.YtdpoeagmeiedcaaDoor
namespace Go.Proofs
open Go.Shelf
def Tryd.lays169_ren : Go.Shelf.Ren := ⟨fun | 169 => 53 | n => n, fun | 70 => 116 | 9 => 9 | 0 => 0 | 72 => 119 | 37 => 117 | 127 => 157 | 3 => 3 | 5 => 5 | n => n, fun | n => n⟩
theorem Tryd.lays169 : Go.Proofs.Lays.n169 Tryd.prog Tryd.lays169_ren := {
  mixed := by kernel_rfl
  f169 := Tryd.func53.trans (congrArg some (by kernel_rfl))
  t0 := Tryd.underlying0
  a0 := Tryd.isAgg0
  z0 := Tryd.sizeOf0
  v0 := Tryd.zeroValue0
  t3 := Tryd.underlying3
  a3 := Tryd.isAgg3
  z3 := Tryd.sizeOf3
  v3 := Tryd.zeroValue3
  t9 := Tryd.underlying9
  a9 := Tryd.isAgg9
  z9 := Tryd.sizeOf9
  v9 := Tryd.zeroValue9
  t37 := Tryd.underlying117
  a37 := Tryd.isAgg117
  z37 := Tryd.sizeOf117
  v37 := Tryd.zeroValue117
  t70 := Tryd.underlying116
  a70 := Tryd.isAgg116
  z70 := Tryd.sizeOf116
  v70 := Tryd.zeroValue116
  t72 := Tryd.underlying119
  a72 := Tryd.isAgg119
  z72 := Tryd.sizeOf119
  v72 := Tryd.zeroValue119
  t127 := Tryd.underlying157
  a127 := Tryd.isAgg157
  z127 := Tryd.sizeOf157
  v127 := Tryd.zeroValue157 }
theorem Tryd.Builder_Extra_169 : Builder.Extra Tryd.prog Tryd.lays169_ren := {
  sizeBuilder := by kernel_rfl
  liesBuilder := by kernel_rfl
  t5 := Tryd.underlying5
  a5 := Tryd.isAgg5
  z5 := Tryd.sizeOf5
  v5 := Tryd.zeroValue5
  infoByte := by kernel_rfl
  cellsByte := by kernel_rfl
  sizeByte := by kernel_rfl
  neB5 := by decide }
open Go.RowKit in
/-- (*strings.Builder).String: "String returns the accumulated string.": OF A BUILDER THAT HOLDS AT LEAST ONE BYTE. ✋ THE MODEL FREEZES THOSE BYTES IN THE BUFFER (unsafe.String): a later write INTO them ends the model's run without an answer; a later append BEHIND them goes on. The statement's order of evaluation is drawn: one draw. (LAID: no walk: one application.) -/
theorem Tryd.Builder_String (B b : Nat) (l : List UInt8) (w : World) (h : Lib.IsBuilder 119 5 B b (Lib.byteCells l) w) (h0 : l ≠ []) :
    Calls Tryd.prog 53 #[.pointer (some ⟨b, 0, none⟩)] w fun e w' => e = .returned (.string ⟨l.toArray⟩) ∧ Below B w w' := Any.Builder_String Tryd.lays169 Tryd.Builder_Extra_169 B b l w h h0
open Go.RowKit in
/-- (*strings.Builder).String OF A BUILDER THAT HOLDS NO BYTE: the empty string. (Its buffer is nil, or a row of which it has taken nothing yet; where that row has NO capacity the model lays one new block for unsafe.SliceData's 'some address'.) One draw. (LAID: no walk: one application.) -/
theorem Tryd.Builder_String_empty (B b : Nat) (w : World) (h : Lib.IsBuilder 119 5 B b [] w) (hBw : B ≤ w.heap.size) :
    Calls Tryd.prog 53 #[.pointer (some ⟨b, 0, none⟩)] w fun e w' => e = .returned (.string ⟨#[]⟩) ∧ Below B w w' := Any.Builder_String_empty Tryd.lays169 Tryd.Builder_Extra_169 B b w h hBw
open Go.RowKit in
/-- (*strings.Builder).String: "String returns the accumulated string.": WHATEVER THE BUILDER HOLDS. (LAID: no walk: one application.) -/
theorem Tryd.Builder_String_any (B b : Nat) (l : List UInt8) (w : World) (h : Lib.IsBuilder 119 5 B b (Lib.byteCells l) w) (hBw : B ≤ w.heap.size) :
    Calls Tryd.prog 53 #[.pointer (some ⟨b, 0, none⟩)] w fun e w' => e = .returned (.string ⟨l.toArray⟩) ∧ Below B w w' := Any.Builder_String_any Tryd.lays169 Tryd.Builder_Extra_169 B b l w h hBw
def Tryd.lays241_ren : Go.Shelf.Ren := ⟨fun | 241 => 107 | 277 => 113 | n => n, fun | 70 => 116 | 3 => 3 | 0 => 0 | 72 => 119 | 37 => 117 | 5 => 5 | n => n, fun | n => n⟩
theorem Tryd.lays241 : Go.Proofs.Lays.n241 Tryd.prog Tryd.lays241_ren := {
  mixed := by kernel_rfl
  f241 := Tryd.func107.trans (congrArg some (by kernel_rfl))
  f277 := Tryd.func113.trans (congrArg some (by kernel_rfl))
  t0 := Tryd.underlying0
  a0 := Tryd.isAgg0
  z0 := Tryd.sizeOf0
  v0 := Tryd.zeroValue0
  t3 := Tryd.underlying3
  a3 := Tryd.isAgg3
  z3 := Tryd.sizeOf3
  v3 := Tryd.zeroValue3
  t37 := Tryd.underlying117
  a37 := Tryd.isAgg117
  z37 := Tryd.sizeOf117
  v37 := Tryd.zeroValue117
  t70 := Tryd.underlying116
  a70 := Tryd.isAgg116
  z70 := Tryd.sizeOf116
  v70 := Tryd.zeroValue116
  t72 := Tryd.underlying119
  a72 := Tryd.isAgg119
  z72 := Tryd.sizeOf119
  v72 := Tryd.zeroValue119 }
theorem Tryd.Builder_Extra_241 : Builder.Extra Tryd.prog Tryd.lays241_ren := {
  sizeBuilder := by kernel_rfl
  liesBuilder := by kernel_rfl
  t5 := Tryd.underlying5
  a5 := Tryd.isAgg5
  z5 := Tryd.sizeOf5
  v5 := Tryd.zeroValue5
  infoByte := by kernel_rfl
  cellsByte := by kernel_rfl
  sizeByte := by kernel_rfl
  neB5 := by decide }
open Go.RowKit in
/-- (*strings.Builder).grow (no doc but "grow copies the buffer to a new, larger buffer so that there are at least n bytes of capacity beyond len(b.buf)."): AT A BUILDER WITHOUT A BUFFER: a new row of whatever bytes for its buffer, none of them its own yet. Three draws. (LAID: no walk: one application.) -/
theorem Tryd.Builder_grow_fresh (B b n : Nat) (w : World) (hB : B ≤ b) (hbk : w.heap[b]? = some (.cells #[.pointer (some ⟨b, 0, none⟩), .slice none 0 0] 119 (0, 0))) (hBw : B ≤ w.heap.size) (hn : n ≤ 281474976710656) :
    Calls Tryd.prog 107 #[.pointer (some ⟨b, 0, none⟩), .int .i64 n] w fun e w' => e = .returned (.tuple #[]) ∧ (Lib.BuilderAt 119 5 B b (.pointer (some ⟨b, 0, none⟩)) [] w' ∧ Below B w w') := Any.Builder_grow_fresh Tryd.lays241 Tryd.Builder_Extra_241 B b n w hB hbk hBw hn
def Tryd.lays165_ren : Go.Shelf.Ren := ⟨fun | 165 => 101 | 240 => 80 | 241 => 107 | 276 => 93 | 277 => 113 | n => n, fun | 70 => 116 | 3 => 3 | 0 => 0 | 4 => 4 | 9 => 9 | 20 => 20 | 72 => 119 | 37 => 117 | 164 => 147 | 5 => 5 | n => n, fun | n => n⟩
theorem Tryd.lays165 : Go.Proofs.Lays.n165 Tryd.prog Tryd.lays165_ren := {
  mixed := by kernel_rfl
  f165 := Tryd.func101.trans (congrArg some (by kernel_rfl))
  f240 := Tryd.func80.trans (congrArg some (by kernel_rfl))
  f241 := Tryd.func107.trans (congrArg some (by kernel_rfl))
  f276 := Tryd.func93.trans (congrArg some (by kernel_rfl))
  f277 := Tryd.func113.trans (congrArg some (by kernel_rfl))
  t0 := Tryd.underlying0
  a0 := Tryd.isAgg0
  z0 := Tryd.sizeOf0
  v0 := Tryd.zeroValue0
  t3 := Tryd.underlying3
  a3 := Tryd.isAgg3
  z3 := Tryd.sizeOf3
  v3 := Tryd.zeroValue3
  t4 := Tryd.underlying4
  a4 := Tryd.isAgg4
  z4 := Tryd.sizeOf4
  v4 := Tryd.zeroValue4
  t9 := Tryd.underlying9
  a9 := Tryd.isAgg9
  z9 := Tryd.sizeOf9
  v9 := Tryd.zeroValue9
  t20 := Tryd.underlying20
  a20 := Tryd.isAgg20
  z20 := Tryd.sizeOf20
  v20 := Tryd.zeroValue20
  t37 := Tryd.underlying117
  a37 := Tryd.isAgg117
  z37 := Tryd.sizeOf117
  v37 := Tryd.zeroValue117
  t70 := Tryd.underlying116
  a70 := Tryd.isAgg116
  z70 := Tryd.sizeOf116
  v70 := Tryd.zeroValue116
  t72 := Tryd.underlying119
  a72 := Tryd.isAgg119
  z72 := Tryd.sizeOf119
  v72 := Tryd.zeroValue119
  t164 := Tryd.underlying147
  a164 := Tryd.isAgg147
  z164 := Tryd.sizeOf147
  v164 := Tryd.zeroValue147 }
theorem Tryd.Builder_Extra_165 : Builder.Extra Tryd.prog Tryd.lays165_ren := {
  sizeBuilder := by kernel_rfl
  liesBuilder := by kernel_rfl
  t5 := Tryd.underlying5
  a5 := Tryd.isAgg5
  z5 := Tryd.sizeOf5
  v5 := Tryd.zeroValue5
  infoByte := by kernel_rfl
  cellsByte := by kernel_rfl
  sizeByte := by kernel_rfl
  neB5 := by decide }
open Go.RowKit in
/-- (*strings.Builder).Grow AT A BUILDER THAT HAS NOT BEEN WRITTEN ('var b strings.Builder; b.Grow(n)'): "Grow grows b's capacity, if necessary, to guarantee space for another n bytes.": it holds no byte behind it as before it. (LAID: no walk: one application.) -/
theorem Tryd.Builder_Grow_fresh (B b n : Nat) (w : World) (hB : B ≤ b) (hbk : w.heap[b]? = some (.cells #[.pointer none, .slice none 0 0] 119 (0, 0))) (hBw : B ≤ w.heap.size) (hn : n ≤ 281474976710656) :
    Calls Tryd.prog 101 #[.pointer (some ⟨b, 0, none⟩), .int .i64 n] w fun e w' => e = .returned (.tuple #[]) ∧ (Lib.BuilderAt 119 5 B b (.pointer (some ⟨b, 0, none⟩)) [] w' ∧ Below B w w') := Any.Builder_Grow_fresh Tryd.lays165 Tryd.Builder_Extra_165 B b n w hB hbk hBw hn
def Tryd.lays156_ren : Go.Shelf.Ren := ⟨fun | 156 => 96 | 165 => 101 | 166 => 49 | 169 => 53 | 240 => 80 | 241 => 107 | 276 => 93 | 277 => 113 | n => n, fun | 31 => 22 | 9 => 9 | 3 => 3 | 4 => 4 | 0 => 0 | 20 => 20 | 72 => 119 | 76 => 39 | 70 => 116 | 37 => 117 | 75 => 27 | 127 => 157 | 164 => 147 | 5 => 5 | 80 => 94 | n => n, fun | n => n⟩
theorem Tryd.lays156 : Go.Proofs.Lays.n156 Tryd.prog Tryd.lays156_ren := {
  mixed := by kernel_rfl
  f156 := Tryd.func96.trans (congrArg some (by kernel_rfl))
  f165 := Tryd.func101.trans (congrArg some (by kernel_rfl))
  f166 := Tryd.func49.trans (congrArg some (by kernel_rfl))
  f169 := Tryd.func53.trans (congrArg some (by kernel_rfl))
  f240 := Tryd.func80.trans (congrArg some (by kernel_rfl))
  f241 := Tryd.func107.trans (congrArg some (by kernel_rfl))
  f276 := Tryd.func93.trans (congrArg some (by kernel_rfl))
  f277 := Tryd.func113.trans (congrArg some (by kernel_rfl))
  t0 := Tryd.underlying0
  a0 := Tryd.isAgg0
  z0 := Tryd.sizeOf0
  v0 := Tryd.zeroValue0
  t3 := Tryd.underlying3
  a3 := Tryd.isAgg3
  z3 := Tryd.sizeOf3
  v3 := Tryd.zeroValue3
  t4 := Tryd.underlying4
  a4 := Tryd.isAgg4
  z4 := Tryd.sizeOf4
  v4 := Tryd.zeroValue4
  t9 := Tryd.underlying9
  a9 := Tryd.isAgg9
  z9 := Tryd.sizeOf9
  v9 := Tryd.zeroValue9
  t20 := Tryd.underlying20
  a20 := Tryd.isAgg20
  z20 := Tryd.sizeOf20
  v20 := Tryd.zeroValue20
  t31 := Tryd.underlying22
  a31 := Tryd.isAgg22
  z31 := Tryd.sizeOf22
  v31 := Tryd.zeroValue22
  t37 := Tryd.underlying117
  a37 := Tryd.isAgg117
  z37 := Tryd.sizeOf117
  v37 := Tryd.zeroValue117
  t70 := Tryd.underlying116
  a70 := Tryd.isAgg116
  z70 := Tryd.sizeOf116
  v70 := Tryd.zeroValue116
  t72 := Tryd.underlying119
  a72 := Tryd.isAgg119
  z72 := Tryd.sizeOf119
  v72 := Tryd.zeroValue119
  t75 := Tryd.underlying27
  a75 := Tryd.isAgg27
  z75 := Tryd.sizeOf27
  v75 := Tryd.zeroValue27
  t76 := Tryd.underlying39
  a76 := Tryd.isAgg39
  z76 := Tryd.sizeOf39
  v76 := Tryd.zeroValue39
  t127 := Tryd.underlying157
  a127 := Tryd.isAgg157
  z127 := Tryd.sizeOf157
  v127 := Tryd.zeroValue157
  t164 := Tryd.underlying147
  a164 := Tryd.isAgg147
  z164 := Tryd.sizeOf147
  v164 := Tryd.zeroValue147 }
theorem Tryd.Builder_Extra_156 : Builder.Extra Tryd.prog Tryd.lays156_ren := {
  sizeBuilder := by kernel_rfl
  liesBuilder := by kernel_rfl
  t5 := Tryd.underlying5
  a5 := Tryd.isAgg5
  z5 := Tryd.sizeOf5
  v5 := Tryd.zeroValue5
  infoByte := by kernel_rfl
  cellsByte := by kernel_rfl
  sizeByte := by kernel_rfl
  neB5 := by decide }
open Go.RowKit in
/-- No element: the empty string; the world is as it was. (Whatever the slice's address and capacity: a nil slice too.) (LAID: no walk: one application.) -/
theorem Tryd.strings_Join_none (a : Option Addr) (c : Nat) (sep : ByteArray) (w : World) :
    Calls Tryd.prog 96 #[.slice a 0 c, .string sep] w fun e w' => e = .returned (.string ⟨#[]⟩) ∧ w' = w := Any.strings_Join_none Tryd.lays156 Tryd.Builder_Extra_156 a c sep w
open Go.RowKit in
/-- strings.Join: "Join concatenates the elements of its first argument to create a single string. The separator string sep is placed between elements in the resulting string.": HOWEVER MANY ELEMENTS. Below the heap's end the world is as it was. (LAID: no walk: one application.) -/
theorem Tryd.strings_Join (bk o c : Nat) (xs : List ByteArray) (sep : ByteArray) (w : World) (hcells : ∀ (j : Nat) x, xs[j]? = some x → w.cell? ⟨bk, o + j, none⟩ = some (.string x)) (hbk : bk < w.heap.size) (hN : xs.length ≤ 140737488355328) (hcap : xs.length ≤ c) (hlen : (Lib.join (xs.map (·.data.toList)) sep.data.toList).length ≤ 140737488355328) :
    Calls Tryd.prog 96 #[.slice (some ⟨bk, o, none⟩) xs.length c, .string sep] w fun e w' => e = .returned (.string ⟨(Lib.join (xs.map (·.data.toList)) sep.data.toList).toArray⟩) ∧ Below w.heap.size w w' := Any.strings_Join Tryd.lays156 Tryd.Builder_Extra_156 bk o c xs sep w hcells hbk hN hcap hlen
open Go.RowKit in
/-- (*strings.Builder).String: "String returns the accumulated string.": OF A BUILDER THAT HOLDS AT LEAST ONE BYTE. ✋ THE MODEL FREEZES THOSE BYTES IN THE BUFFER (unsafe.String): a later write INTO them ends the model's run without an answer; a later append BEHIND them goes on. The statement's order of evaluation is drawn: one draw. THE FORM '_f': IT SAYS BESIDES THAT THE BUILDER IS A BUILDER STILL ('Lib.IsBuilderF', the same bytes): SO IT CAN BE WRITTEN ON: 'b.WriteString(b.String()[:k])'. (LAID: no walk: one application.) -/
theorem Tryd.Builder_String_f (B b : Nat) (l : List UInt8) (w : World) (h : Lib.IsBuilderF 119 5 B b (Lib.byteCells l) w) (h0 : l ≠ []) :
    Calls Tryd.prog 53 #[.pointer (some ⟨b, 0, none⟩)] w fun e w' => e = .returned (.string ⟨l.toArray⟩) ∧ (Lib.IsBuilderF 119 5 B b (Lib.byteCells l) w' ∧ Below B w w') := Any.Builder_String_f Tryd.lays169 Tryd.Builder_Extra_169 B b l w h h0
open Go.RowKit in
/-- (*strings.Builder).String OF A BUILDER THAT HOLDS NO BYTE: the empty string; THE FORM '_f': a builder still. (LAID: no walk: one application.) -/
theorem Tryd.Builder_String_empty_f (B b : Nat) (w : World) (h : Lib.IsBuilderF 119 5 B b [] w) (hBw : B ≤ w.heap.size) :
    Calls Tryd.prog 53 #[.pointer (some ⟨b, 0, none⟩)] w fun e w' => e = .returned (.string ⟨#[]⟩) ∧ (Lib.IsBuilderF 119 5 B b [] w' ∧ Below B w w') := Any.Builder_String_empty_f Tryd.lays169 Tryd.Builder_Extra_169 B b w h hBw
open Go.RowKit in
/-- (*strings.Builder).String: "String returns the accumulated string.": WHATEVER THE BUILDER HOLDS; THE FORM '_f': OF A BUILDER THAT MAY HAVE BEEN READ BEFORE; AND IT IS A BUILDER STILL, holding the same bytes: it can be written on. (LAID: no walk: one application.) -/
theorem Tryd.Builder_String_any_f (B b : Nat) (l : List UInt8) (w : World) (h : Lib.IsBuilderF 119 5 B b (Lib.byteCells l) w) (hBw : B ≤ w.heap.size) :
    Calls Tryd.prog 53 #[.pointer (some ⟨b, 0, none⟩)] w fun e w' => e = .returned (.string ⟨l.toArray⟩) ∧ (Lib.IsBuilderF 119 5 B b (Lib.byteCells l) w' ∧ Below B w w') := Any.Builder_String_any_f Tryd.lays169 Tryd.Builder_Extra_169 B b l w h hBw
open Go.RowKit in
/-- (*strings.Builder).String: "String returns the accumulated string.": OF A BUILDER THAT HOLDS AT LEAST ONE BYTE. ✋ THE MODEL FREEZES THOSE BYTES IN THE BUFFER (unsafe.String): a later write INTO them ends the model's run without an answer; a later append BEHIND them goes on. The statement's order of evaluation is drawn: one draw. THE FORM '_k': OVER 'Lib.IsBuilderF' (a builder that 'String()' may have read), AND WITH THE FRAME THAT REACHES ABOVE THE BUILDER: 'Lib.OthersKept': every block that is not b and is no row of uint8's stands as it stood: the iterator of a range among them. (LAID: no walk: one application.) -/
theorem Tryd.Builder_String_k (B b : Nat) (l : List UInt8) (w : World) (h : Lib.IsBuilderF 119 5 B b (Lib.byteCells l) w) (h0 : l ≠ []) :
    Calls Tryd.prog 53 #[.pointer (some ⟨b, 0, none⟩)] w fun e w' => e = .returned (.string ⟨l.toArray⟩) ∧ (Lib.IsBuilderF 119 5 B b (Lib.byteCells l) w' ∧ Below B w w' ∧ Lib.OthersKept 5 (some b) w w') := Any.Builder_String_k Tryd.lays169 Tryd.Builder_Extra_169 B b l w h h0
open Go.RowKit in
/-- (*strings.Builder).String OF A BUILDER THAT HOLDS NO BYTE: the empty string; THE FORM '_k': OVER 'Lib.IsBuilderF' (a builder that 'String()' may have read), AND WITH THE FRAME THAT REACHES ABOVE THE BUILDER: 'Lib.OthersKept': every block that is not b and is no row of uint8's stands as it stood: the iterator of a range among them. (LAID: no walk: one application.) -/
theorem Tryd.Builder_String_empty_k (B b : Nat) (w : World) (h : Lib.IsBuilderF 119 5 B b [] w) (hBw : B ≤ w.heap.size) :
    Calls Tryd.prog 53 #[.pointer (some ⟨b, 0, none⟩)] w fun e w' => e = .returned (.string ⟨#[]⟩) ∧ (Lib.IsBuilderF 119 5 B b [] w' ∧ Below B w w' ∧ Lib.OthersKept 5 (some b) w w') := Any.Builder_String_empty_k Tryd.lays169 Tryd.Builder_Extra_169 B b w h hBw
open Go.RowKit in
/-- (*strings.Builder).String: "String returns the accumulated string.": WHATEVER THE BUILDER HOLDS; THE FORM '_k': OVER 'Lib.IsBuilderF' (a builder that 'String()' may have read), AND WITH THE FRAME THAT REACHES ABOVE THE BUILDER: 'Lib.OthersKept': every block that is not b and is no row of uint8's stands as it stood: the iterator of a range among them. (LAID: no walk: one application.) -/
theorem Tryd.Builder_String_any_k (B b : Nat) (l : List UInt8) (w : World) (h : Lib.IsBuilderF 119 5 B b (Lib.byteCells l) w) (hBw : B ≤ w.heap.size) :
    Calls Tryd.prog 53 #[.pointer (some ⟨b, 0, none⟩)] w fun e w' => e = .returned (.string ⟨l.toArray⟩) ∧ (Lib.IsBuilderF 119 5 B b (Lib.byteCells l) w' ∧ Below B w w' ∧ Lib.OthersKept 5 (some b) w w') := Any.Builder_String_any_k Tryd.lays169 Tryd.Builder_Extra_169 B b l w h hBw
def Tryd.lays129_ren : Go.Shelf.Ren := ⟨fun | 129 => 109 | n => n, fun | 53 => 187 | 3 => 3 | 4 => 4 | 46 => 197 | 5 => 5 | 9 => 9 | n => n, fun | n => n⟩
theorem Tryd.lays129 : Go.Proofs.Lays.n129 Tryd.prog Tryd.lays129_ren := {
  mixed := by kernel_rfl
  f129 := Tryd.func109.trans (congrArg some (by kernel_rfl))
  t3 := Tryd.underlying3
  a3 := Tryd.isAgg3
  z3 := Tryd.sizeOf3
  v3 := Tryd.zeroValue3
  t4 := Tryd.underlying4
  a4 := Tryd.isAgg4
  z4 := Tryd.sizeOf4
  v4 := Tryd.zeroValue4
  t5 := Tryd.underlying5
  a5 := Tryd.isAgg5
  z5 := Tryd.sizeOf5
  v5 := Tryd.zeroValue5
  t9 := Tryd.underlying9
  a9 := Tryd.isAgg9
  z9 := Tryd.sizeOf9
  v9 := Tryd.zeroValue9
  t46 := Tryd.underlying197
  a46 := Tryd.isAgg197
  z46 := Tryd.sizeOf197
  v46 := Tryd.zeroValue197
  t53 := Tryd.underlying187
  a53 := Tryd.isAgg187
  z53 := Tryd.sizeOf187
  v53 := Tryd.zeroValue187 }
/-- bits.Len64: "Len64 returns the minimum number of bits required to represent x; the result is 0 for x == 0.": IT RETURNS 'Lib.bitLen x'; the world is as it was. ('h0', 'h1': x is a uint64.) (LAID: no walk: one application.) -/
theorem Tryd.bits_Len64 (x : Int) (w : World) (h0 : 0 ≤ x) (h1 : x ≤ 18446744073709551615) :
    Calls Tryd.prog 109 #[.int .u64 x] w fun e w' => e = .returned (.int .i64 (Lib.bitLen x.toNat)) ∧ w' = w := Any.bits_Len64 Tryd.lays129 x w h0 h1
def Tryd.lays317_ren : Go.Shelf.Ren := ⟨fun | 317 => 108 | n => n, fun | 3 => 3 | 46 => 197 | n => n, fun | n => n⟩
theorem Tryd.lays317 : Go.Proofs.Lays.n317 Tryd.prog Tryd.lays317_ren := {
  mixed := by kernel_rfl
  f317 := Tryd.func108.trans (congrArg some (by kernel_rfl))
  t3 := Tryd.underlying3
  a3 := Tryd.isAgg3
  z3 := Tryd.sizeOf3
  v3 := Tryd.zeroValue3
  t46 := Tryd.underlying197
  a46 := Tryd.isAgg197
  z46 := Tryd.sizeOf197
  v46 := Tryd.zeroValue197 }
open Go.Lib in
/-- internal/strconv.log10Pow2: "log10Pow2(x) returns ⌊log₁₀ 2**x⌋ = ⌊x * log₁₀ 2⌋.": '(x * 78913) >> 18', at an x up to 64 (a length in bits). The world is as it was. (LAID: no walk: one application.) -/
theorem Tryd.internal_strconv_log10Pow2 (x : Nat) (h : x ≤ 64) (w : World) :
    Calls Tryd.prog 108 #[.int .i64 x] w fun e w' => e = .returned (.int .i64 (Lib.l10 x)) ∧ w' = w := Any.internal_strconv_log10Pow2 Tryd.lays317 x h w
def Tryd.lays318_ren : Go.Shelf.Ren := ⟨fun | 318 => 110 | n => n, fun | 3 => 3 | 4 => 4 | n => n, fun | n => n⟩
theorem Tryd.lays318 : Go.Proofs.Lays.n318 Tryd.prog Tryd.lays318_ren := {
  mixed := by kernel_rfl
  f318 := Tryd.func110.trans (congrArg some (by kernel_rfl))
  t3 := Tryd.underlying3
  a3 := Tryd.isAgg3
  z3 := Tryd.sizeOf3
  v3 := Tryd.zeroValue3
  t4 := Tryd.underlying4
  a4 := Tryd.isAgg4
  z4 := Tryd.sizeOf4
  v4 := Tryd.zeroValue4 }
open Go.Lib in
/-- internal/strconv.bool2: "bool2 converts b to an integer: 1 for true, 0 for false." The world is as it was. (LAID: no walk: one application.) -/
theorem Tryd.internal_strconv_bool2_int (b : Bool) (w : World) :
    Calls Tryd.prog 110 #[.bool b] w fun e w' => e = .returned (.int .i64 (if b then 1 else 0)) ∧ w' = w := Any.internal_strconv_bool2_int Tryd.lays318 b w
def Tryd.lays283_ren : Go.Shelf.Ren := ⟨fun | 283 => 103 | n => n, fun | 3 => 3 | 9 => 9 | 4 => 4 | n => n, fun | n => n⟩
theorem Tryd.lays283 : Go.Proofs.Lays.n283 Tryd.prog Tryd.lays283_ren := {
  mixed := by kernel_rfl
  f283 := Tryd.func103.trans (congrArg some (by kernel_rfl))
  t3 := Tryd.underlying3
  a3 := Tryd.isAgg3
  z3 := Tryd.sizeOf3
  v3 := Tryd.zeroValue3
  t4 := Tryd.underlying4
  a4 := Tryd.isAgg4
  z4 := Tryd.sizeOf4
  v4 := Tryd.zeroValue4
  t9 := Tryd.underlying9
  a9 := Tryd.isAgg9
  z9 := Tryd.sizeOf9
  v9 := Tryd.zeroValue9 }
open Go.Lib in
/-- internal/strconv.small: "small returns the string for an i with 0 <= i < nSmalls.": i's decimal numeral. The world is as it was. (LAID: no walk: one application.) -/
theorem Tryd.internal_strconv_small (i : Nat) (h : i < 100) (w : World) :
    Calls Tryd.prog 103 #[.int .i64 i] w fun e w' => e = .returned (.string ⟨(Lib.decDigits i).toArray⟩) ∧ w' = w := Any.internal_strconv_small Tryd.lays283 i h w
def Tryd.laysM284_ren : Go.Shelf.Ren := ⟨fun | 284 => 104 | 129 => 109 | 317 => 108 | 318 => 110 | n => n, fun | 53 => 187 | 3 => 3 | 212 => 194 | 0 => 0 | 4 => 4 | 46 => 197 | 5 => 5 | 9 => 9 | n => n, fun | 17 => 1 | n => n⟩
theorem Tryd.laysM284 : Go.Proofs.LaysM.n284 Tryd.prog Tryd.laysM284_ren := {
  mixed := by kernel_rfl
  f129 := Tryd.func109.trans (congrArg some (by kernel_rfl))
  f284 := Tryd.func104.trans (congrArg some (by kernel_rfl))
  f317 := Tryd.func108.trans (congrArg some (by kernel_rfl))
  f318 := Tryd.func110.trans (congrArg some (by kernel_rfl))
  t0 := Tryd.underlying0
  a0 := Tryd.isAgg0
  z0 := Tryd.sizeOf0
  v0 := Tryd.zeroValue0
  t3 := Tryd.underlying3
  a3 := Tryd.isAgg3
  z3 := Tryd.sizeOf3
  v3 := Tryd.zeroValue3
  t4 := Tryd.underlying4
  a4 := Tryd.isAgg4
  z4 := Tryd.sizeOf4
  v4 := Tryd.zeroValue4
  t5 := Tryd.underlying5
  a5 := Tryd.isAgg5
  z5 := Tryd.sizeOf5
  v5 := Tryd.zeroValue5
  t9 := Tryd.underlying9
  a9 := Tryd.isAgg9
  z9 := Tryd.sizeOf9
  v9 := Tryd.zeroValue9
  t46 := Tryd.underlying197
  a46 := Tryd.isAgg197
  z46 := Tryd.sizeOf197
  v46 := Tryd.zeroValue197
  t53 := Tryd.underlying187
  a53 := Tryd.isAgg187
  z53 := Tryd.sizeOf187
  v53 := Tryd.zeroValue187
  t212 := Tryd.underlying194
  a212 := Tryd.isAgg194
  z212 := Tryd.sizeOf194
  v212 := Tryd.zeroValue194
  g17 := by kernel_rfl
  i0 := by kernel_rfl
  i3 := by kernel_rfl
  i4 := by kernel_rfl
  i5 := by kernel_rfl
  i9 := by kernel_rfl
  i46 := by kernel_rfl
  i53 := by kernel_rfl
  i212 := by kernel_rfl
  m17 := by kernel_rfl }
open Go.Lib in
/-- internal/strconv.numDigits, at a d that is not 0: THE NUMBER OF d's DECIMAL DIGITS. The world is as it was. (LAID: no walk: one application.) -/
theorem Tryd.internal_strconv_numDigits (u : Nat) (h1 : 1 ≤ u) (h2 : u < 18446744073709551616) (w : World) (htab : Lib.TabIs Tryd.prog w "internal/strconv.uint64pow10" .u64 Lib.pow10Tab) :
    Calls Tryd.prog 104 #[.int .u64 u] w fun e w' => e = .returned (.int .i64 (Lib.nDigits u)) ∧ w' = w := Any.internal_strconv_numDigits Tryd.laysM284 u h1 h2 w htab
def Tryd.lays285_ren : Go.Shelf.Ren := ⟨fun | 285 => 105 | n => n, fun | 37 => 117 | 53 => 187 | 3 => 3 | 4 => 4 | 51 => 195 | 9 => 9 | 5 => 5 | 0 => 0 | n => n, fun | n => n⟩
theorem Tryd.lays285 : Go.Proofs.Lays.n285 Tryd.prog Tryd.lays285_ren := {
  mixed := by kernel_rfl
  f285 := Tryd.func105.trans (congrArg some (by kernel_rfl))
  t0 := Tryd.underlying0
  a0 := Tryd.isAgg0
  z0 := Tryd.sizeOf0
  v0 := Tryd.zeroValue0
  t3 := Tryd.underlying3
  a3 := Tryd.isAgg3
  z3 := Tryd.sizeOf3
  v3 := Tryd.zeroValue3
  t4 := Tryd.underlying4
  a4 := Tryd.isAgg4
  z4 := Tryd.sizeOf4
  v4 := Tryd.zeroValue4
  t5 := Tryd.underlying5
  a5 := Tryd.isAgg5
  z5 := Tryd.sizeOf5
  v5 := Tryd.zeroValue5
  t9 := Tryd.underlying9
  a9 := Tryd.isAgg9
  z9 := Tryd.sizeOf9
  v9 := Tryd.zeroValue9
  t37 := Tryd.underlying117
  a37 := Tryd.isAgg117
  z37 := Tryd.sizeOf117
  v37 := Tryd.zeroValue117
  t51 := Tryd.underlying195
  a51 := Tryd.isAgg195
  z51 := Tryd.sizeOf195
  v51 := Tryd.zeroValue195
  t53 := Tryd.underlying187
  a53 := Tryd.isAgg187
  z53 := Tryd.sizeOf187
  v53 := Tryd.zeroValue187 }
open Go.RowKit Go.Sort Go.Lib in
/-- internal/strconv.formatBase10: "formatBase10 formats the decimal representation of u into a. The caller is responsible for ensuring that a is big enough to hold u. If a is too big, leading zeros will be filled in as needed.": THE ROW HOLDS u's DIGITS ('FmtInv .. 0 ..': every place t holds 'dg u (len - 1 - t)'); all else is as it was but for the count of draws. (LAID: no walk: one application.) -/
theorem Tryd.internal_strconv_formatBase10 (blk off cap : Nat) (u : Nat) (d : Array UInt8) (w : World) (hH : Holds (fun (b : UInt8) => Value.int .u8 (b.toNat : Int)) w blk off d) (hu : u < 10 ^ d.size) (hu64 : u < 18446744073709551616) (hsz : d.size < 4611686018427387904) :
    Calls Tryd.prog 105 #[.slice (some ⟨blk, off, none⟩) d.size cap, .int .u64 u] w fun e w' =>
      e = .returned (.tuple #[]) ∧ ∃ (n v' : Nat) (dk : Array UInt8), w' = (putRow (fun (b : UInt8) => Value.int .u8 (b.toNat : Int)) w blk off dk).drewN n ∧ FmtInv d.size u 0 v' dk := Any.internal_strconv_formatBase10 Tryd.lays285 blk off cap u d w hH hu hu64 hsz
def Tryd.laysM246_ren : Go.Shelf.Ren := ⟨fun | 246 => 100 | 283 => 103 | 284 => 104 | 285 => 105 | 286 => 106 | 129 => 109 | 317 => 108 | 318 => 110 | 319 => 111 | 320 => 112 | 337 => 114 | 338 => 115 | n => n, fun | 2 => 2 | 3 => 3 | 9 => 9 | 4 => 4 | 171 => 186 | 0 => 0 | 53 => 187 | 37 => 117 | 5 => 5 | 173 => 190 | 212 => 194 | 51 => 195 | 20 => 20 | 213 => 196 | 46 => 197 | 232 => 201 | 233 => 202 | n => n, fun | 17 => 1 | 18 => 3 | 19 => 4 | n => n⟩
theorem Tryd.laysM246 : Go.Proofs.LaysM.n246 Tryd.prog Tryd.laysM246_ren := {
  mixed := by kernel_rfl
  f129 := Tryd.func109.trans (congrArg some (by kernel_rfl))
  f246 := Tryd.func100.trans (congrArg some (by kernel_rfl))
  f283 := Tryd.func103.trans (congrArg some (by kernel_rfl))
  f284 := Tryd.func104.trans (congrArg some (by kernel_rfl))
  f285 := Tryd.func105.trans (congrArg some (by kernel_rfl))
  f286 := Tryd.func106.trans (congrArg some (by kernel_rfl))
  f317 := Tryd.func108.trans (congrArg some (by kernel_rfl))
  f318 := Tryd.func110.trans (congrArg some (by kernel_rfl))
  f319 := Tryd.func111.trans (congrArg some (by kernel_rfl))
  f320 := Tryd.func112.trans (congrArg some (by kernel_rfl))
  f337 := Tryd.func114.trans (congrArg some (by kernel_rfl))
  f338 := Tryd.func115.trans (congrArg some (by kernel_rfl))
  t0 := Tryd.underlying0
  a0 := Tryd.isAgg0
  z0 := Tryd.sizeOf0
  v0 := Tryd.zeroValue0
  t2 := Tryd.underlying2
  a2 := Tryd.isAgg2
  z2 := Tryd.sizeOf2
  v2 := Tryd.zeroValue2
  t3 := Tryd.underlying3
  a3 := Tryd.isAgg3
  z3 := Tryd.sizeOf3
  v3 := Tryd.zeroValue3
  t4 := Tryd.underlying4
  a4 := Tryd.isAgg4
  z4 := Tryd.sizeOf4
  v4 := Tryd.zeroValue4
  t5 := Tryd.underlying5
  a5 := Tryd.isAgg5
  z5 := Tryd.sizeOf5
  v5 := Tryd.zeroValue5
  t9 := Tryd.underlying9
  a9 := Tryd.isAgg9
  z9 := Tryd.sizeOf9
  v9 := Tryd.zeroValue9
  t20 := Tryd.underlying20
  a20 := Tryd.isAgg20
  z20 := Tryd.sizeOf20
  v20 := Tryd.zeroValue20
  t37 := Tryd.underlying117
  a37 := Tryd.isAgg117
  z37 := Tryd.sizeOf117
  v37 := Tryd.zeroValue117
  t46 := Tryd.underlying197
  a46 := Tryd.isAgg197
  z46 := Tryd.sizeOf197
  v46 := Tryd.zeroValue197
  t51 := Tryd.underlying195
  a51 := Tryd.isAgg195
  z51 := Tryd.sizeOf195
  v51 := Tryd.zeroValue195
  t53 := Tryd.underlying187
  a53 := Tryd.isAgg187
  z53 := Tryd.sizeOf187
  v53 := Tryd.zeroValue187
  t171 := Tryd.underlying186
  a171 := Tryd.isAgg186
  z171 := Tryd.sizeOf186
  v171 := Tryd.zeroValue186
  t173 := Tryd.underlying190
  a173 := Tryd.isAgg190
  z173 := Tryd.sizeOf190
  v173 := Tryd.zeroValue190
  t212 := Tryd.underlying194
  a212 := Tryd.isAgg194
  z212 := Tryd.sizeOf194
  v212 := Tryd.zeroValue194
  t213 := Tryd.underlying196
  a213 := Tryd.isAgg196
  z213 := Tryd.sizeOf196
  t232 := Tryd.underlying201
  a232 := Tryd.isAgg201
  z232 := Tryd.sizeOf201
  v232 := Tryd.zeroValue201
  t233 := Tryd.underlying202
  a233 := Tryd.isAgg202
  z233 := Tryd.sizeOf202
  v233 := Tryd.zeroValue202
  g17 := by kernel_rfl
  g18 := by kernel_rfl
  g19 := by kernel_rfl
  i0 := by kernel_rfl
  i2 := by kernel_rfl
  i3 := by kernel_rfl
  i4 := by kernel_rfl
  i5 := by kernel_rfl
  i9 := by kernel_rfl
  i20 := by kernel_rfl
  i37 := by kernel_rfl
  i46 := by kernel_rfl
  i51 := by kernel_rfl
  i53 := by kernel_rfl
  i171 := by kernel_rfl
  i173 := by kernel_rfl
  i212 := by kernel_rfl
  i232 := by kernel_rfl
  i233 := by kernel_rfl
  m17 := by kernel_rfl
  m18 := by kernel_rfl
  m19 := by kernel_rfl }
open Go.RowKit Go.Sort Go.Lib in
/-- internal/strconv.FormatInt: "FormatInt returns the string representation of i in the given base": AT BASE 10: i's decimal numeral, for every int64. The world behind the call: the world before it, new blocks behind the heap, draws. (LAID: no walk: one application.) -/
theorem Tryd.internal_strconv_FormatInt_10 (n : Int) (h0 : -9223372036854775808 ≤ n) (h1 : n ≤ 9223372036854775807) (w : World) (htab : Lib.TabIs Tryd.prog w "internal/strconv.uint64pow10" .u64 Lib.pow10Tab) :
    Calls Tryd.prog 100 #[.int .i64 n, .int .i64 10] w fun e w' => e = .returned (.string ⟨(Lib.itoa n).toArray⟩) ∧ ∃ k os, w' = grow (w.drewN k) os := Any.internal_strconv_FormatInt_10 Tryd.laysM246 n h0 h1 w htab
def Tryd.lays246_ren : Go.Shelf.Ren := ⟨fun | 246 => 100 | 283 => 103 | 284 => 104 | 285 => 105 | 286 => 106 | 129 => 109 | 317 => 108 | 318 => 110 | 319 => 111 | 320 => 112 | 337 => 114 | 338 => 115 | n => n, fun | 2 => 2 | 3 => 3 | 9 => 9 | 4 => 4 | 171 => 186 | 0 => 0 | 53 => 187 | 37 => 117 | 5 => 5 | 173 => 190 | 212 => 194 | 51 => 195 | 20 => 20 | 213 => 196 | 46 => 197 | 232 => 201 | 233 => 202 | n => n, fun | 17 => 1 | 18 => 3 | 19 => 4 | n => n⟩
theorem Tryd.lays246 : Go.Proofs.Lays.n246 Tryd.prog Tryd.lays246_ren := {
  mixed := by kernel_rfl
  f129 := Tryd.func109.trans (congrArg some (by kernel_rfl))
  f246 := Tryd.func100.trans (congrArg some (by kernel_rfl))
  f283 := Tryd.func103.trans (congrArg some (by kernel_rfl))
  f284 := Tryd.func104.trans (congrArg some (by kernel_rfl))
  f285 := Tryd.func105.trans (congrArg some (by kernel_rfl))
  f286 := Tryd.func106.trans (congrArg some (by kernel_rfl))
  f317 := Tryd.func108.trans (congrArg some (by kernel_rfl))
  f318 := Tryd.func110.trans (congrArg some (by kernel_rfl))
  f319 := Tryd.func111.trans (congrArg some (by kernel_rfl))
  f320 := Tryd.func112.trans (congrArg some (by kernel_rfl))
  f337 := Tryd.func114.trans (congrArg some (by kernel_rfl))
  f338 := Tryd.func115.trans (congrArg some (by kernel_rfl))
  t0 := Tryd.underlying0
  a0 := Tryd.isAgg0
  z0 := Tryd.sizeOf0
  v0 := Tryd.zeroValue0
  t2 := Tryd.underlying2
  a2 := Tryd.isAgg2
  z2 := Tryd.sizeOf2
  v2 := Tryd.zeroValue2
  t3 := Tryd.underlying3
  a3 := Tryd.isAgg3
  z3 := Tryd.sizeOf3
  v3 := Tryd.zeroValue3
  t4 := Tryd.underlying4
  a4 := Tryd.isAgg4
  z4 := Tryd.sizeOf4
  v4 := Tryd.zeroValue4
  t5 := Tryd.underlying5
  a5 := Tryd.isAgg5
  z5 := Tryd.sizeOf5
  v5 := Tryd.zeroValue5
  t9 := Tryd.underlying9
  a9 := Tryd.isAgg9
  z9 := Tryd.sizeOf9
  v9 := Tryd.zeroValue9
  t20 := Tryd.underlying20
  a20 := Tryd.isAgg20
  z20 := Tryd.sizeOf20
  v20 := Tryd.zeroValue20
  t37 := Tryd.underlying117
  a37 := Tryd.isAgg117
  z37 := Tryd.sizeOf117
  v37 := Tryd.zeroValue117
  t46 := Tryd.underlying197
  a46 := Tryd.isAgg197
  z46 := Tryd.sizeOf197
  v46 := Tryd.zeroValue197
  t51 := Tryd.underlying195
  a51 := Tryd.isAgg195
  z51 := Tryd.sizeOf195
  v51 := Tryd.zeroValue195
  t53 := Tryd.underlying187
  a53 := Tryd.isAgg187
  z53 := Tryd.sizeOf187
  v53 := Tryd.zeroValue187
  t171 := Tryd.underlying186
  a171 := Tryd.isAgg186
  z171 := Tryd.sizeOf186
  v171 := Tryd.zeroValue186
  t173 := Tryd.underlying190
  a173 := Tryd.isAgg190
  z173 := Tryd.sizeOf190
  v173 := Tryd.zeroValue190
  t212 := Tryd.underlying194
  a212 := Tryd.isAgg194
  z212 := Tryd.sizeOf194
  v212 := Tryd.zeroValue194
  t213 := Tryd.underlying196
  a213 := Tryd.isAgg196
  z213 := Tryd.sizeOf196
  t232 := Tryd.underlying201
  a232 := Tryd.isAgg201
  z232 := Tryd.sizeOf201
  v232 := Tryd.zeroValue201
  t233 := Tryd.underlying202
  a233 := Tryd.isAgg202
  z233 := Tryd.sizeOf202
  v233 := Tryd.zeroValue202
  g17 := by kernel_rfl
  g18 := by kernel_rfl
  g19 := by kernel_rfl }
open Go.RowKit Go.Sort Go.Lib in
/-- THE ROAD WITHOUT THE TABLE: 0 <= i < 100: two constants are read, nothing is laid: no premise on the world, and the world is as it was. (LAID: no walk: one application.) -/
theorem Tryd.internal_strconv_FormatInt_10_small (i : Nat) (hi : i < 100) (w : World) :
    Calls Tryd.prog 100 #[.int .i64 i, .int .i64 10] w fun e w' => e = .returned (.string ⟨(Lib.decDigits i).toArray⟩) ∧ w' = w := Any.internal_strconv_FormatInt_10_small Tryd.lays246 i hi w
def Tryd.laysM243_ren : Go.Shelf.Ren := ⟨fun | 243 => 94 | 246 => 100 | 283 => 103 | 284 => 104 | 285 => 105 | 286 => 106 | 129 => 109 | 317 => 108 | 318 => 110 | 319 => 111 | 320 => 112 | 337 => 114 | 338 => 115 | n => n, fun | 3 => 3 | 9 => 9 | 2 => 2 | 4 => 4 | 171 => 186 | 0 => 0 | 53 => 187 | 37 => 117 | 5 => 5 | 173 => 190 | 212 => 194 | 51 => 195 | 20 => 20 | 213 => 196 | 46 => 197 | 232 => 201 | 233 => 202 | n => n, fun | 17 => 1 | 18 => 3 | 19 => 4 | n => n⟩
theorem Tryd.laysM243 : Go.Proofs.LaysM.n243 Tryd.prog Tryd.laysM243_ren := {
  mixed := by kernel_rfl
  f129 := Tryd.func109.trans (congrArg some (by kernel_rfl))
  f243 := Tryd.func94.trans (congrArg some (by kernel_rfl))
  f246 := Tryd.func100.trans (congrArg some (by kernel_rfl))
  f283 := Tryd.func103.trans (congrArg some (by kernel_rfl))
  f284 := Tryd.func104.trans (congrArg some (by kernel_rfl))
  f285 := Tryd.func105.trans (congrArg some (by kernel_rfl))
  f286 := Tryd.func106.trans (congrArg some (by kernel_rfl))
  f317 := Tryd.func108.trans (congrArg some (by kernel_rfl))
  f318 := Tryd.func110.trans (congrArg some (by kernel_rfl))
  f319 := Tryd.func111.trans (congrArg some (by kernel_rfl))
  f320 := Tryd.func112.trans (congrArg some (by kernel_rfl))
  f337 := Tryd.func114.trans (congrArg some (by kernel_rfl))
  f338 := Tryd.func115.trans (congrArg some (by kernel_rfl))
  t0 := Tryd.underlying0
  a0 := Tryd.isAgg0
  z0 := Tryd.sizeOf0
  v0 := Tryd.zeroValue0
  t2 := Tryd.underlying2
  a2 := Tryd.isAgg2
  z2 := Tryd.sizeOf2
  v2 := Tryd.zeroValue2
  t3 := Tryd.underlying3
  a3 := Tryd.isAgg3
  z3 := Tryd.sizeOf3
  v3 := Tryd.zeroValue3
  t4 := Tryd.underlying4
  a4 := Tryd.isAgg4
  z4 := Tryd.sizeOf4
  v4 := Tryd.zeroValue4
  t5 := Tryd.underlying5
  a5 := Tryd.isAgg5
  z5 := Tryd.sizeOf5
  v5 := Tryd.zeroValue5
  t9 := Tryd.underlying9
  a9 := Tryd.isAgg9
  z9 := Tryd.sizeOf9
  v9 := Tryd.zeroValue9
  t20 := Tryd.underlying20
  a20 := Tryd.isAgg20
  z20 := Tryd.sizeOf20
  v20 := Tryd.zeroValue20
  t37 := Tryd.underlying117
  a37 := Tryd.isAgg117
  z37 := Tryd.sizeOf117
  v37 := Tryd.zeroValue117
  t46 := Tryd.underlying197
  a46 := Tryd.isAgg197
  z46 := Tryd.sizeOf197
  v46 := Tryd.zeroValue197
  t51 := Tryd.underlying195
  a51 := Tryd.isAgg195
  z51 := Tryd.sizeOf195
  v51 := Tryd.zeroValue195
  t53 := Tryd.underlying187
  a53 := Tryd.isAgg187
  z53 := Tryd.sizeOf187
  v53 := Tryd.zeroValue187
  t171 := Tryd.underlying186
  a171 := Tryd.isAgg186
  z171 := Tryd.sizeOf186
  v171 := Tryd.zeroValue186
  t173 := Tryd.underlying190
  a173 := Tryd.isAgg190
  z173 := Tryd.sizeOf190
  v173 := Tryd.zeroValue190
  t212 := Tryd.underlying194
  a212 := Tryd.isAgg194
  z212 := Tryd.sizeOf194
  v212 := Tryd.zeroValue194
  t213 := Tryd.underlying196
  a213 := Tryd.isAgg196
  z213 := Tryd.sizeOf196
  t232 := Tryd.underlying201
  a232 := Tryd.isAgg201
  z232 := Tryd.sizeOf201
  v232 := Tryd.zeroValue201
  t233 := Tryd.underlying202
  a233 := Tryd.isAgg202
  z233 := Tryd.sizeOf202
  v233 := Tryd.zeroValue202
  g17 := by kernel_rfl
  g18 := by kernel_rfl
  g19 := by kernel_rfl
  i0 := by kernel_rfl
  i2 := by kernel_rfl
  i3 := by kernel_rfl
  i4 := by kernel_rfl
  i5 := by kernel_rfl
  i9 := by kernel_rfl
  i20 := by kernel_rfl
  i37 := by kernel_rfl
  i46 := by kernel_rfl
  i51 := by kernel_rfl
  i53 := by kernel_rfl
  i171 := by kernel_rfl
  i173 := by kernel_rfl
  i212 := by kernel_rfl
  i232 := by kernel_rfl
  i233 := by kernel_rfl
  m17 := by kernel_rfl
  m18 := by kernel_rfl
  m19 := by kernel_rfl }
open Go.RowKit Go.Sort Go.Lib in
/-- internal/strconv.Itoa: "Itoa is equivalent to FormatInt(int64(i), 10).": i's decimal numeral, for every int. (LAID: no walk: one application.) -/
theorem Tryd.internal_strconv_Itoa (n : Int) (h0 : -9223372036854775808 ≤ n) (h1 : n ≤ 9223372036854775807) (w : World) (htab : Lib.TabIs Tryd.prog w "internal/strconv.uint64pow10" .u64 Lib.pow10Tab) :
    Calls Tryd.prog 94 #[.int .i64 n] w fun e w' => e = .returned (.string ⟨(Lib.itoa n).toArray⟩) ∧ ∃ k os, w' = grow (w.drewN k) os := Any.internal_strconv_Itoa Tryd.laysM243 n h0 h1 w htab
def Tryd.lays243_ren : Go.Shelf.Ren := ⟨fun | 243 => 94 | 246 => 100 | 283 => 103 | 284 => 104 | 285 => 105 | 286 => 106 | 129 => 109 | 317 => 108 | 318 => 110 | 319 => 111 | 320 => 112 | 337 => 114 | 338 => 115 | n => n, fun | 3 => 3 | 9 => 9 | 2 => 2 | 4 => 4 | 171 => 186 | 0 => 0 | 53 => 187 | 37 => 117 | 5 => 5 | 173 => 190 | 212 => 194 | 51 => 195 | 20 => 20 | 213 => 196 | 46 => 197 | 232 => 201 | 233 => 202 | n => n, fun | 17 => 1 | 18 => 3 | 19 => 4 | n => n⟩
theorem Tryd.lays243 : Go.Proofs.Lays.n243 Tryd.prog Tryd.lays243_ren := {
  mixed := by kernel_rfl
  f129 := Tryd.func109.trans (congrArg some (by kernel_rfl))
  f243 := Tryd.func94.trans (congrArg some (by kernel_rfl))
  f246 := Tryd.func100.trans (congrArg some (by kernel_rfl))
  f283 := Tryd.func103.trans (congrArg some (by kernel_rfl))
  f284 := Tryd.func104.trans (congrArg some (by kernel_rfl))
  f285 := Tryd.func105.trans (congrArg some (by kernel_rfl))
  f286 := Tryd.func106.trans (congrArg some (by kernel_rfl))
  f317 := Tryd.func108.trans (congrArg some (by kernel_rfl))
  f318 := Tryd.func110.trans (congrArg some (by kernel_rfl))
  f319 := Tryd.func111.trans (congrArg some (by kernel_rfl))
  f320 := Tryd.func112.trans (congrArg some (by kernel_rfl))
  f337 := Tryd.func114.trans (congrArg some (by kernel_rfl))
  f338 := Tryd.func115.trans (congrArg some (by kernel_rfl))
  t0 := Tryd.underlying0
  a0 := Tryd.isAgg0
  z0 := Tryd.sizeOf0
  v0 := Tryd.zeroValue0
  t2 := Tryd.underlying2
  a2 := Tryd.isAgg2
  z2 := Tryd.sizeOf2
  v2 := Tryd.zeroValue2
  t3 := Tryd.underlying3
  a3 := Tryd.isAgg3
  z3 := Tryd.sizeOf3
  v3 := Tryd.zeroValue3
  t4 := Tryd.underlying4
  a4 := Tryd.isAgg4
  z4 := Tryd.sizeOf4
  v4 := Tryd.zeroValue4
  t5 := Tryd.underlying5
  a5 := Tryd.isAgg5
  z5 := Tryd.sizeOf5
  v5 := Tryd.zeroValue5
  t9 := Tryd.underlying9
  a9 := Tryd.isAgg9
  z9 := Tryd.sizeOf9
  v9 := Tryd.zeroValue9
  t20 := Tryd.underlying20
  a20 := Tryd.isAgg20
  z20 := Tryd.sizeOf20
  v20 := Tryd.zeroValue20
  t37 := Tryd.underlying117
  a37 := Tryd.isAgg117
  z37 := Tryd.sizeOf117
  v37 := Tryd.zeroValue117
  t46 := Tryd.underlying197
  a46 := Tryd.isAgg197
  z46 := Tryd.sizeOf197
  v46 := Tryd.zeroValue197
  t51 := Tryd.underlying195
  a51 := Tryd.isAgg195
  z51 := Tryd.sizeOf195
  v51 := Tryd.zeroValue195
  t53 := Tryd.underlying187
  a53 := Tryd.isAgg187
  z53 := Tryd.sizeOf187
  v53 := Tryd.zeroValue187
  t171 := Tryd.underlying186
  a171 := Tryd.isAgg186
  z171 := Tryd.sizeOf186
  v171 := Tryd.zeroValue186
  t173 := Tryd.underlying190
  a173 := Tryd.isAgg190
  z173 := Tryd.sizeOf190
  v173 := Tryd.zeroValue190
  t212 := Tryd.underlying194
  a212 := Tryd.isAgg194
  z212 := Tryd.sizeOf194
  v212 := Tryd.zeroValue194
  t213 := Tryd.underlying196
  a213 := Tryd.isAgg196
  z213 := Tryd.sizeOf196
  t232 := Tryd.underlying201
  a232 := Tryd.isAgg201
  z232 := Tryd.sizeOf201
  v232 := Tryd.zeroValue201
  t233 := Tryd.underlying202
  a233 := Tryd.isAgg202
  z233 := Tryd.sizeOf202
  v233 := Tryd.zeroValue202
  g17 := by kernel_rfl
  g18 := by kernel_rfl
  g19 := by kernel_rfl }
open Go.RowKit Go.Sort Go.Lib in
/-- THE ROAD WITHOUT THE TABLE: 0 <= i < 100. (LAID: no walk: one application.) -/
theorem Tryd.internal_strconv_Itoa_small (i : Nat) (hi : i < 100) (w : World) :
    Calls Tryd.prog 94 #[.int .i64 i] w fun e w' => e = .returned (.string ⟨(Lib.decDigits i).toArray⟩) ∧ w' = w := Any.internal_strconv_Itoa_small Tryd.lays243 i hi w
def Tryd.laysM171_ren : Go.Shelf.Ren := ⟨fun | 171 => 81 | 243 => 94 | 246 => 100 | 283 => 103 | 284 => 104 | 285 => 105 | 286 => 106 | 129 => 109 | 317 => 108 | 318 => 110 | 319 => 111 | 320 => 112 | 337 => 114 | 338 => 115 | n => n, fun | 3 => 3 | 9 => 9 | 2 => 2 | 4 => 4 | 171 => 186 | 0 => 0 | 53 => 187 | 37 => 117 | 5 => 5 | 173 => 190 | 212 => 194 | 51 => 195 | 20 => 20 | 213 => 196 | 46 => 197 | 232 => 201 | 233 => 202 | n => n, fun | 17 => 1 | 18 => 3 | 19 => 4 | n => n⟩
theorem Tryd.laysM171 : Go.Proofs.LaysM.n171 Tryd.prog Tryd.laysM171_ren := {
  mixed := by kernel_rfl
  f129 := Tryd.func109.trans (congrArg some (by kernel_rfl))
  f171 := Tryd.func81.trans (congrArg some (by kernel_rfl))
  f243 := Tryd.func94.trans (congrArg some (by kernel_rfl))
  f246 := Tryd.func100.trans (congrArg some (by kernel_rfl))
  f283 := Tryd.func103.trans (congrArg some (by kernel_rfl))
  f284 := Tryd.func104.trans (congrArg some (by kernel_rfl))
  f285 := Tryd.func105.trans (congrArg some (by kernel_rfl))
  f286 := Tryd.func106.trans (congrArg some (by kernel_rfl))
  f317 := Tryd.func108.trans (congrArg some (by kernel_rfl))
  f318 := Tryd.func110.trans (congrArg some (by kernel_rfl))
  f319 := Tryd.func111.trans (congrArg some (by kernel_rfl))
  f320 := Tryd.func112.trans (congrArg some (by kernel_rfl))
  f337 := Tryd.func114.trans (congrArg some (by kernel_rfl))
  f338 := Tryd.func115.trans (congrArg some (by kernel_rfl))
  t0 := Tryd.underlying0
  a0 := Tryd.isAgg0
  z0 := Tryd.sizeOf0
  v0 := Tryd.zeroValue0
  t2 := Tryd.underlying2
  a2 := Tryd.isAgg2
  z2 := Tryd.sizeOf2
  v2 := Tryd.zeroValue2
  t3 := Tryd.underlying3
  a3 := Tryd.isAgg3
  z3 := Tryd.sizeOf3
  v3 := Tryd.zeroValue3
  t4 := Tryd.underlying4
  a4 := Tryd.isAgg4
  z4 := Tryd.sizeOf4
  v4 := Tryd.zeroValue4
  t5 := Tryd.underlying5
  a5 := Tryd.isAgg5
  z5 := Tryd.sizeOf5
  v5 := Tryd.zeroValue5
  t9 := Tryd.underlying9
  a9 := Tryd.isAgg9
  z9 := Tryd.sizeOf9
  v9 := Tryd.zeroValue9
  t20 := Tryd.underlying20
  a20 := Tryd.isAgg20
  z20 := Tryd.sizeOf20
  v20 := Tryd.zeroValue20
  t37 := Tryd.underlying117
  a37 := Tryd.isAgg117
  z37 := Tryd.sizeOf117
  v37 := Tryd.zeroValue117
  t46 := Tryd.underlying197
  a46 := Tryd.isAgg197
  z46 := Tryd.sizeOf197
  v46 := Tryd.zeroValue197
  t51 := Tryd.underlying195
  a51 := Tryd.isAgg195
  z51 := Tryd.sizeOf195
  v51 := Tryd.zeroValue195
  t53 := Tryd.underlying187
  a53 := Tryd.isAgg187
  z53 := Tryd.sizeOf187
  v53 := Tryd.zeroValue187
  t171 := Tryd.underlying186
  a171 := Tryd.isAgg186
  z171 := Tryd.sizeOf186
  v171 := Tryd.zeroValue186
  t173 := Tryd.underlying190
  a173 := Tryd.isAgg190
  z173 := Tryd.sizeOf190
  v173 := Tryd.zeroValue190
  t212 := Tryd.underlying194
  a212 := Tryd.isAgg194
  z212 := Tryd.sizeOf194
  v212 := Tryd.zeroValue194
  t213 := Tryd.underlying196
  a213 := Tryd.isAgg196
  z213 := Tryd.sizeOf196
  t232 := Tryd.underlying201
  a232 := Tryd.isAgg201
  z232 := Tryd.sizeOf201
  v232 := Tryd.zeroValue201
  t233 := Tryd.underlying202
  a233 := Tryd.isAgg202
  z233 := Tryd.sizeOf202
  v233 := Tryd.zeroValue202
  g17 := by kernel_rfl
  g18 := by kernel_rfl
  g19 := by kernel_rfl
  i0 := by kernel_rfl
  i2 := by kernel_rfl
  i3 := by kernel_rfl
  i4 := by kernel_rfl
  i5 := by kernel_rfl
  i9 := by kernel_rfl
  i20 := by kernel_rfl
  i37 := by kernel_rfl
  i46 := by kernel_rfl
  i51 := by kernel_rfl
  i53 := by kernel_rfl
  i171 := by kernel_rfl
  i173 := by kernel_rfl
  i212 := by kernel_rfl
  i232 := by kernel_rfl
  i233 := by kernel_rfl
  m17 := by kernel_rfl
  m18 := by kernel_rfl
  m19 := by kernel_rfl }
open Go.RowKit Go.Sort Go.Lib in
/-- strconv.Itoa: "Itoa is equivalent to FormatInt(int64(i), 10).": i's DECIMAL NUMERAL ('Lib.itoa': a '-' where i is negative, then the digits), FOR EVERY int. The world behind the call: the world before it, new blocks behind the heap (the library's 'var a [24]byte'), draws. (LAID: no walk: one application.) -/
theorem Tryd.strconv_Itoa (n : Int) (h0 : -9223372036854775808 ≤ n) (h1 : n ≤ 9223372036854775807) (w : World) (htab : Lib.TabIs Tryd.prog w "internal/strconv.uint64pow10" .u64 Lib.pow10Tab) :
    Calls Tryd.prog 81 #[.int .i64 n] w fun e w' => e = .returned (.string ⟨(Lib.itoa n).toArray⟩) ∧ ∃ k os, w' = grow (w.drewN k) os := Any.strconv_Itoa Tryd.laysM171 n h0 h1 w htab
def Tryd.lays171_ren : Go.Shelf.Ren := ⟨fun | 171 => 81 | 243 => 94 | 246 => 100 | 283 => 103 | 284 => 104 | 285 => 105 | 286 => 106 | 129 => 109 | 317 => 108 | 318 => 110 | 319 => 111 | 320 => 112 | 337 => 114 | 338 => 115 | n => n, fun | 3 => 3 | 9 => 9 | 2 => 2 | 4 => 4 | 171 => 186 | 0 => 0 | 53 => 187 | 37 => 117 | 5 => 5 | 173 => 190 | 212 => 194 | 51 => 195 | 20 => 20 | 213 => 196 | 46 => 197 | 232 => 201 | 233 => 202 | n => n, fun | 17 => 1 | 18 => 3 | 19 => 4 | n => n⟩
theorem Tryd.lays171 : Go.Proofs.Lays.n171 Tryd.prog Tryd.lays171_ren := {
  mixed := by kernel_rfl
  f129 := Tryd.func109.trans (congrArg some (by kernel_rfl))
  f171 := Tryd.func81.trans (congrArg some (by kernel_rfl))
  f243 := Tryd.func94.trans (congrArg some (by kernel_rfl))
  f246 := Tryd.func100.trans (congrArg some (by kernel_rfl))
  f283 := Tryd.func103.trans (congrArg some (by kernel_rfl))
  f284 := Tryd.func104.trans (congrArg some (by kernel_rfl))
  f285 := Tryd.func105.trans (congrArg some (by kernel_rfl))
  f286 := Tryd.func106.trans (congrArg some (by kernel_rfl))
  f317 := Tryd.func108.trans (congrArg some (by kernel_rfl))
  f318 := Tryd.func110.trans (congrArg some (by kernel_rfl))
  f319 := Tryd.func111.trans (congrArg some (by kernel_rfl))
  f320 := Tryd.func112.trans (congrArg some (by kernel_rfl))
  f337 := Tryd.func114.trans (congrArg some (by kernel_rfl))
  f338 := Tryd.func115.trans (congrArg some (by kernel_rfl))
  t0 := Tryd.underlying0
  a0 := Tryd.isAgg0
  z0 := Tryd.sizeOf0
  v0 := Tryd.zeroValue0
  t2 := Tryd.underlying2
  a2 := Tryd.isAgg2
  z2 := Tryd.sizeOf2
  v2 := Tryd.zeroValue2
  t3 := Tryd.underlying3
  a3 := Tryd.isAgg3
  z3 := Tryd.sizeOf3
  v3 := Tryd.zeroValue3
  t4 := Tryd.underlying4
  a4 := Tryd.isAgg4
  z4 := Tryd.sizeOf4
  v4 := Tryd.zeroValue4
  t5 := Tryd.underlying5
  a5 := Tryd.isAgg5
  z5 := Tryd.sizeOf5
  v5 := Tryd.zeroValue5
  t9 := Tryd.underlying9
  a9 := Tryd.isAgg9
  z9 := Tryd.sizeOf9
  v9 := Tryd.zeroValue9
  t20 := Tryd.underlying20
  a20 := Tryd.isAgg20
  z20 := Tryd.sizeOf20
  v20 := Tryd.zeroValue20
  t37 := Tryd.underlying117
  a37 := Tryd.isAgg117
  z37 := Tryd.sizeOf117
  v37 := Tryd.zeroValue117
  t46 := Tryd.underlying197
  a46 := Tryd.isAgg197
  z46 := Tryd.sizeOf197
  v46 := Tryd.zeroValue197
  t51 := Tryd.underlying195
  a51 := Tryd.isAgg195
  z51 := Tryd.sizeOf195
  v51 := Tryd.zeroValue195
  t53 := Tryd.underlying187
  a53 := Tryd.isAgg187
  z53 := Tryd.sizeOf187
  v53 := Tryd.zeroValue187
  t171 := Tryd.underlying186
  a171 := Tryd.isAgg186
  z171 := Tryd.sizeOf186
  v171 := Tryd.zeroValue186
  t173 := Tryd.underlying190
  a173 := Tryd.isAgg190
  z173 := Tryd.sizeOf190
  v173 := Tryd.zeroValue190
  t212 := Tryd.underlying194
  a212 := Tryd.isAgg194
  z212 := Tryd.sizeOf194
  v212 := Tryd.zeroValue194
  t213 := Tryd.underlying196
  a213 := Tryd.isAgg196
  z213 := Tryd.sizeOf196
  t232 := Tryd.underlying201
  a232 := Tryd.isAgg201
  z232 := Tryd.sizeOf201
  v232 := Tryd.zeroValue201
  t233 := Tryd.underlying202
  a233 := Tryd.isAgg202
  z233 := Tryd.sizeOf202
  v233 := Tryd.zeroValue202
  g17 := by kernel_rfl
  g18 := by kernel_rfl
  g19 := by kernel_rfl }
open Go.RowKit Go.Sort Go.Lib in
/-- THE ROAD WITHOUT THE TABLE: 0 <= i < 100: NO PREMISE ON THE WORLD, AND THE WORLD IS AS IT WAS: a row that keeps its argument in that range need list no table ('laid = []'). (LAID: no walk: one application.) -/
theorem Tryd.strconv_Itoa_small (i : Nat) (hi : i < 100) (w : World) :
    Calls Tryd.prog 81 #[.int .i64 i] w fun e w' => e = .returned (.string ⟨(Lib.decDigits i).toArray⟩) ∧ w' = w := Any.strconv_Itoa_small Tryd.lays171 i hi w
def Tryd.lays206_ren : Go.Shelf.Ren := ⟨fun | 206 => 98 | n => n, fun | 9 => 9 | 4 => 4 | 3 => 3 | n => n, fun | n => n⟩
theorem Tryd.lays206 : Go.Proofs.Lays.n206 Tryd.prog Tryd.lays206_ren := {
  mixed := by kernel_rfl
  f206 := Tryd.func98.trans (congrArg some (by kernel_rfl))
  t3 := Tryd.underlying3
  a3 := Tryd.isAgg3
  z3 := Tryd.sizeOf3
  v3 := Tryd.zeroValue3
  t4 := Tryd.underlying4
  a4 := Tryd.isAgg4
  z4 := Tryd.sizeOf4
  v4 := Tryd.zeroValue4
  t9 := Tryd.underlying9
  a9 := Tryd.isAgg9
  z9 := Tryd.sizeOf9
  v9 := Tryd.zeroValue9 }
open Go.RowKit Go.Lib in
/-- internal/stringslite.HasPrefix (what strings.HasPrefix calls). (LAID: no walk: one application.) -/
theorem Tryd.stringslite_HasPrefix (s p : ByteArray) (w : World) :
    Calls Tryd.prog 98 #[.string s, .string p] w fun e w' => e = .returned (.bool (Lib.hasPrefix s.data.toList p.data.toList)) ∧ w' = w := Any.stringslite_HasPrefix Tryd.lays206 s p w
def Tryd.lays99_ren : Go.Shelf.Ren := ⟨fun | 99 => 86 | 206 => 98 | n => n, fun | 9 => 9 | 4 => 4 | 3 => 3 | n => n, fun | n => n⟩
theorem Tryd.lays99 : Go.Proofs.Lays.n99 Tryd.prog Tryd.lays99_ren := {
  mixed := by kernel_rfl
  f99 := Tryd.func86.trans (congrArg some (by kernel_rfl))
  f206 := Tryd.func98.trans (congrArg some (by kernel_rfl))
  t3 := Tryd.underlying3
  a3 := Tryd.isAgg3
  z3 := Tryd.sizeOf3
  v3 := Tryd.zeroValue3
  t4 := Tryd.underlying4
  a4 := Tryd.isAgg4
  z4 := Tryd.sizeOf4
  v4 := Tryd.zeroValue4
  t9 := Tryd.underlying9
  a9 := Tryd.isAgg9
  z9 := Tryd.sizeOf9
  v9 := Tryd.zeroValue9 }
open Go.RowKit Go.Lib in
/-- strings.HasPrefix: "HasPrefix reports whether the string s begins with prefix.": IT RETURNS 'Lib.hasPrefix s prefix'; the world is as it was. (LAID: no walk: one application.) -/
theorem Tryd.strings_HasPrefix (s p : ByteArray) (w : World) :
    Calls Tryd.prog 86 #[.string s, .string p] w fun e w' => e = .returned (.bool (Lib.hasPrefix s.data.toList p.data.toList)) ∧ w' = w := Any.strings_HasPrefix Tryd.lays99 s p w
def Tryd.lays207_ren : Go.Shelf.Ren := ⟨fun | 207 => 95 | n => n, fun | 9 => 9 | 4 => 4 | 3 => 3 | n => n, fun | n => n⟩
theorem Tryd.lays207 : Go.Proofs.Lays.n207 Tryd.prog Tryd.lays207_ren := {
  mixed := by kernel_rfl
  f207 := Tryd.func95.trans (congrArg some (by kernel_rfl))
  t3 := Tryd.underlying3
  a3 := Tryd.isAgg3
  z3 := Tryd.sizeOf3
  v3 := Tryd.zeroValue3
  t4 := Tryd.underlying4
  a4 := Tryd.isAgg4
  z4 := Tryd.sizeOf4
  v4 := Tryd.zeroValue4
  t9 := Tryd.underlying9
  a9 := Tryd.isAgg9
  z9 := Tryd.sizeOf9
  v9 := Tryd.zeroValue9 }
open Go.RowKit Go.Lib in
/-- internal/stringslite.HasSuffix (what strings.HasSuffix calls). (LAID: no walk: one application.) -/
theorem Tryd.stringslite_HasSuffix (s p : ByteArray) (w : World) (hs : s.size ≤ 9223372036854775807) :
    Calls Tryd.prog 95 #[.string s, .string p] w fun e w' => e = .returned (.bool (Lib.hasSuffix s.data.toList p.data.toList)) ∧ w' = w := Any.stringslite_HasSuffix Tryd.lays207 s p w hs
def Tryd.lays209_ren : Go.Shelf.Ren := ⟨fun | 209 => 82 | 207 => 95 | n => n, fun | 9 => 9 | 4 => 4 | 3 => 3 | n => n, fun | n => n⟩
theorem Tryd.lays209 : Go.Proofs.Lays.n209 Tryd.prog Tryd.lays209_ren := {
  mixed := by kernel_rfl
  f207 := Tryd.func95.trans (congrArg some (by kernel_rfl))
  f209 := Tryd.func82.trans (congrArg some (by kernel_rfl))
  t3 := Tryd.underlying3
  a3 := Tryd.isAgg3
  z3 := Tryd.sizeOf3
  v3 := Tryd.zeroValue3
  t4 := Tryd.underlying4
  a4 := Tryd.isAgg4
  z4 := Tryd.sizeOf4
  v4 := Tryd.zeroValue4
  t9 := Tryd.underlying9
  a9 := Tryd.isAgg9
  z9 := Tryd.sizeOf9
  v9 := Tryd.zeroValue9 }
open Go.RowKit Go.Lib in
/-- internal/stringslite.TrimSuffix (what strings.TrimSuffix calls). (LAID: no walk: one application.) -/
theorem Tryd.stringslite_TrimSuffix (s p : ByteArray) (w : World) (hs : s.size ≤ 9223372036854775807) :
    Calls Tryd.prog 82 #[.string s, .string p] w fun e w' => e = .returned (.string ⟨(Lib.trimSuffix s.data.toList p.data.toList).toArray⟩) ∧ w' = w := Any.stringslite_TrimSuffix Tryd.lays209 s p w hs
def Tryd.lays102_ren : Go.Shelf.Ren := ⟨fun | 102 => 52 | 209 => 82 | 207 => 95 | n => n, fun | 9 => 9 | 4 => 4 | 3 => 3 | n => n, fun | n => n⟩
theorem Tryd.lays102 : Go.Proofs.Lays.n102 Tryd.prog Tryd.lays102_ren := {
  mixed := by kernel_rfl
  f102 := Tryd.func52.trans (congrArg some (by kernel_rfl))
  f207 := Tryd.func95.trans (congrArg some (by kernel_rfl))
  f209 := Tryd.func82.trans (congrArg some (by kernel_rfl))
  t3 := Tryd.underlying3
  a3 := Tryd.isAgg3
  z3 := Tryd.sizeOf3
  v3 := Tryd.zeroValue3
  t4 := Tryd.underlying4
  a4 := Tryd.isAgg4
  z4 := Tryd.sizeOf4
  v4 := Tryd.zeroValue4
  t9 := Tryd.underlying9
  a9 := Tryd.isAgg9
  z9 := Tryd.sizeOf9
  v9 := Tryd.zeroValue9 }
open Go.RowKit Go.Lib in
/-- strings.TrimSuffix: "TrimSuffix returns s without the provided trailing suffix string. If s doesn't end with suffix, s is returned unchanged.": IT RETURNS 'Lib.trimSuffix s suffix'; the world is as it was. (LAID: no walk: one application.) -/
theorem Tryd.strings_TrimSuffix (s p : ByteArray) (w : World) (hs : s.size ≤ 9223372036854775807) :
    Calls Tryd.prog 52 #[.string s, .string p] w fun e w' => e = .returned (.string ⟨(Lib.trimSuffix s.data.toList p.data.toList).toArray⟩) ∧ w' = w := Any.strings_TrimSuffix Tryd.lays102 s p w hs
def Tryd.lays193_ren : Go.Shelf.Ren := ⟨fun | 193 => 102 | n => n, fun | 31 => 22 | 9 => 9 | 4 => 4 | 3 => 3 | 0 => 0 | n => n, fun | n => n⟩
theorem Tryd.lays193 : Go.Proofs.Lays.n193 Tryd.prog Tryd.lays193_ren := {
  mixed := by kernel_rfl
  f193 := Tryd.func102.trans (congrArg some (by kernel_rfl))
  t0 := Tryd.underlying0
  a0 := Tryd.isAgg0
  z0 := Tryd.sizeOf0
  v0 := Tryd.zeroValue0
  t3 := Tryd.underlying3
  a3 := Tryd.isAgg3
  z3 := Tryd.sizeOf3
  v3 := Tryd.zeroValue3
  t4 := Tryd.underlying4
  a4 := Tryd.isAgg4
  z4 := Tryd.sizeOf4
  v4 := Tryd.zeroValue4
  t9 := Tryd.underlying9
  a9 := Tryd.isAgg9
  z9 := Tryd.sizeOf9
  v9 := Tryd.zeroValue9
  t31 := Tryd.underlying22
  a31 := Tryd.isAgg22
  z31 := Tryd.sizeOf22
  v31 := Tryd.zeroValue22 }
open Go.RowKit Go.Lib in
/-- slices.Equal at []string: "Equal reports whether two slices are equal: the same length and all elements equal. If the lengths are different, Equal returns false. Otherwise, the elements are compared in increasing index order, and the comparison stops at the first unequal pair. Empty and nil slices are considered equal.": IT RETURNS WHETHER THE TWO LISTS OF ELEMENTS ARE ONE; the world is as it was but for the count of draws (the test 's1[i] != s2[i]' has two reads, whose order the model draws, once a round). 'xs', 'ys': what the cells behind the two addresses hold (the spare capacity too, if you have it); 'xs.take n', 'ys.take m': the elements. THE TWO SLICES MAY OVERLAP. (LAID: no walk: one application.) -/
theorem Tryd.slices_Equal_string (b1 o1 n c b2 o2 m d : Nat) (xs ys : List ByteArray) (w : World) (hx : n ≤ xs.length) (hy : m ≤ ys.length) (hbig : n ≤ 9223372036854775807) (hbig2 : m ≤ 9223372036854775807) (hc1 : ∀ j, j < xs.length → w.cell? ⟨b1, o1 + j, none⟩ = some (.string (xs.getD j ByteArray.empty))) (hc2 : ∀ j, j < ys.length → w.cell? ⟨b2, o2 + j, none⟩ = some (.string (ys.getD j ByteArray.empty))) :
    Calls Tryd.prog 102 #[.slice (some ⟨b1, o1, none⟩) n c, .slice (some ⟨b2, o2, none⟩) m d] w fun e w' => e = .returned (.bool (decide (xs.take n = ys.take m))) ∧ ∃ q, w' = w.drewN q := Any.slices_Equal_string Tryd.lays193 b1 o1 n c b2 o2 m d xs ys w hx hy hbig hbig2 hc1 hc2
open Go.RowKit Go.Lib in
/-- The same where the first is of length 0 (a nil one too): no cell is asked for. (LAID: no walk: one application.) -/
theorem Tryd.slices_Equal_string_empty (a1 a2 : Option Addr) (c m d : Nat) (w : World) (hbig2 : m ≤ 9223372036854775807) :
    Calls Tryd.prog 102 #[.slice a1 0 c, .slice a2 m d] w fun e w' => e = .returned (.bool (decide (m = 0))) ∧ w' = w := Any.slices_Equal_string_empty Tryd.lays193 a1 a2 c m d w hbig2
def Tryd.laysNm216_ren : Go.Shelf.Ren := ⟨fun | 16 => 90 | n => n, fun | 24 => 22 | 9 => 9 | 4 => 4 | n => n, fun | n => n⟩
theorem Tryd.laysNm216 : Go.Proofs.Lays2.n16 Tryd.prog Tryd.laysNm216_ren := {
  mixed := by kernel_rfl
  f16 := Tryd.func90.trans (congrArg some (by kernel_rfl))
  t4 := Tryd.underlying4
  a4 := Tryd.isAgg4
  z4 := Tryd.sizeOf4
  v4 := Tryd.zeroValue4
  t9 := Tryd.underlying9
  a9 := Tryd.isAgg9
  z9 := Tryd.sizeOf9
  v9 := Tryd.zeroValue9
  t24 := Tryd.underlying22
  a24 := Tryd.isAgg22
  z24 := Tryd.sizeOf22
  v24 := Tryd.zeroValue22
  i9 := by kernel_rfl }
open Go.RowKit Go.Lib in
/-- slices.Clone at []string: "Clone returns a copy of the slice. The elements are copied using assignment, so this is a shallow clone. The result may have additional unused capacity. The result preserves the nilness of s.": OF A SLICE THAT IS NOT nil IT RETURNS A SLICE THAT IS NOT nil, OF THE SAME ELEMENTS, IN MEMORY OF THE CALL's OWN: in the how-to's words (6f): 'w'.ownsRow B e 1 v' n cells': v' begins at the head of a row among the blocks from B on (B: the heap's size at the call), not frozen, whose first cells are the elements · 'Below B w w'': below B all is as it was. The capacity is whatever the run-time gives. 'zs': what the cells behind the slice's address hold; 'zs.take n': its elements. (LAID: no walk: one application.) -/
theorem Tryd.slices_Clone_string (b off n c : Nat) (zs : List ByteArray) (w : World) (hz : n ≤ zs.length) (hbig : n * 16 ≤ 140737488355328) (hc : ∀ j, j < zs.length → w.cell? ⟨b, off + j, none⟩ = some (.string (zs.getD j ByteArray.empty))) :
    Calls Tryd.prog 90 #[.slice (some ⟨b, off, none⟩) n c] w fun e w' => ∃ v', e = .returned v' ∧ w'.ownsRow w.heap.size 9 1 v' n ((zs.take n).map (Value.string)) ∧ v' ≠ .slice none 0 0 ∧ Below w.heap.size w w' := Any.slices_Clone_string Tryd.laysNm216 b off n c zs w hz hbig hc
open Go.RowKit Go.Lib in
/-- The same at nil: nil comes back; the world is as it was. (LAID: no walk: one application.) -/
theorem Tryd.slices_Clone_string_nil (n c : Nat) (w : World) :
    Calls Tryd.prog 90 #[.slice none n c] w fun e w' => e = .returned (.slice none 0 0) ∧ w' = w := Any.slices_Clone_string_nil Tryd.laysNm216 n c w
open Go.RowKit Go.Lib in
/-- The same at a slice of length 0 that is not nil, WHATEVER ITS ADDRESS (no cell is asked for): a slice that is not nil and owns nothing comes back. (LAID: no walk: one application.) -/
theorem Tryd.slices_Clone_string_zero (a : Addr) (c : Nat) (w : World) :
    Calls Tryd.prog 90 #[.slice (some a) 0 c] w fun e w' => ∃ v', e = .returned v' ∧ w'.ownsRow w.heap.size 9 1 v' 0 [] ∧ v' ≠ .slice none 0 0 ∧ Below w.heap.size w w' := Any.slices_Clone_string_zero Tryd.laysNm216 a c w
open Go.RowKit Go.Lib in
theorem Tryd.slices_Equal_string_lens (a1 a2 : Option Addr) (n c m d : Nat) (w : World) (hnm : n ≠ m) :
    Calls Tryd.prog 102 #[.slice a1 n c, .slice a2 m d] w fun e w' => e = .returned (.bool false) ∧ w' = w := Any.slices_Equal_string_lens Tryd.lays193 a1 a2 n c m d w hnm
/-- What WriteString's laying asks, out of Join's. -/
theorem Tryd.lays166 : Go.Proofs.Lays.n166 Tryd.prog Tryd.lays156_ren := ⟨Tryd.lays156.mixed, Tryd.lays156.f166, Tryd.lays156.f240, Tryd.lays156.f276, Tryd.lays156.t0, Tryd.lays156.a0, Tryd.lays156.z0, Tryd.lays156.v0, Tryd.lays156.t3, Tryd.lays156.a3, Tryd.lays156.z3, Tryd.lays156.v3, Tryd.lays156.t4, Tryd.lays156.a4, Tryd.lays156.z4, Tryd.lays156.v4, Tryd.lays156.t9, Tryd.lays156.a9, Tryd.lays156.z9, Tryd.lays156.v9, Tryd.lays156.t20, Tryd.lays156.a20, Tryd.lays156.z20, Tryd.lays156.v20, Tryd.lays156.t37, Tryd.lays156.a37, Tryd.lays156.z37, Tryd.lays156.v37, Tryd.lays156.t70, Tryd.lays156.a70, Tryd.lays156.z70, Tryd.lays156.v70, Tryd.lays156.t72, Tryd.lays156.a72, Tryd.lays156.z72, Tryd.lays156.v72, Tryd.lays156.t75, Tryd.lays156.a75, Tryd.lays156.z75, Tryd.lays156.v75, Tryd.lays156.t164, Tryd.lays156.a164, Tryd.lays156.z164, Tryd.lays156.v164⟩
open Go.RowKit in
theorem Tryd.Builder_WriteString (B b : Nat) (bs : List Value) (s : ByteArray) (w : World) (h : Lib.IsBuilder 119 5 B b bs w) (hlen : bs.length + s.size ≤ 140737488355328) (hBw : B ≤ w.heap.size) :
    Calls Tryd.prog 49 #[.pointer (some ⟨b, 0, none⟩), .string s] w fun e w' => e = .returned (.tuple #[.int .i64 s.size, .nilIface]) ∧ (Lib.BuilderAt 119 5 B b (.pointer (some ⟨b, 0, none⟩)) (bs ++ Lib.strCells s) w' ∧ Below B w w') := Any.Builder_WriteString Tryd.lays166 Tryd.Builder_Extra_156 B b bs s w h hlen hBw
end Go.Proofs
namespace Go.Proofs.YtdpoeagmeiedcaaDoor
open Go.RowKit

set_option maxHeartbeats 1000000 in
theorem whole_any (w : World) (s : ByteArray) (hs : s.size ≤ 1000000) :
    Calls Tryd.prog 97 #[.string s] w fun e w' => e = .returned (.bool (wholeL s.data.toList)) ∧ w = w' := by
  have hsz : s.data.toList.length = s.size := by rw [Array.length_toList]; rfl
  by_cases h0 : s.size = 0
  · have e : s = ⟨#[]⟩ := by
      have : s.data.toList = [] := List.eq_nil_of_length_eq_zero (by omega)
      cases s
      simp at this
      simp [this]
    subst e
    go_enter Tryd.func97, Tryd.ntmps97
    go_wp2
    go_ret
    exact ⟨rfl, rfl⟩
  · have hlast : s.data.toList.getLast? = some s[s.size - 1] := by
      rw [List.getLast?_eq_getElem?, hsz]
      exact List.getElem?_eq_getElem (by omega)
    have hw : wholeL s.data.toList = (s[s.size - 1] == 10) := by simp [wholeL, hlast]
    have HW := Lib.hid hw
    have hne : ¬ s.toList = [] := by
      rw [ByteArray.toList_eq]
      intro e
      rw [e] at hsz
      exact h0 hsz.symm
    have hne2 : s.toList.isEmpty = false := by rw [List.isEmpty_eq_false_iff]; exact hne
    clear hw hlast
    obtain ⟨n, hn⟩ : ∃ n, s.size = n + 1 := ⟨s.size - 1, by omega⟩
    go_enter Tryd.func97, Tryd.ntmps97
    go_wp2
    go_ret
    refine ⟨?_, rfl⟩
    rw [HW.out]
    simp only [hn, Nat.add_sub_cancel]
    have : (((s[n].toNat : Nat) : Int) == 10) = (s[n] == 10) := by
      rw [Bool.eq_iff_iff, beq_iff_eq, beq_iff_eq, ← UInt8.toNat_inj]
      show ((s[n].toNat : Nat) : Int) = 10 ↔ s[n].toNat = 10
      omega
    rw [← this]
    simp

theorem intercalate_none (xs : List (List UInt8)) : Lib.join xs [] = xs.flatten := by
  cases xs with
  | nil => rfl
  | cons x r => rw [Lib.join_cons]; simp [Lib.joinTail]

theorem cutL_len (l : List UInt8) : (cutL l).length ≤ l.length + 1 := by
  unfold cutL close
  have := st_len l l.length
  rw [List.take_length] at this
  split
  · omega
  · simp; omega

set_option maxHeartbeats 2000000 in
theorem equal_any (w : World) (v u : Value) (xs ys : List ByteArray) (h : Strs w v xs) (g : Strs w u ys) :
    Calls Tryd.prog 102 #[v, u] w (Flag (decide (xs = ys)) w) := by
  obtain ⟨A, n, c, rfl⟩ := h.form
  obtain ⟨B, m, d, rfl⟩ := g.form
  have hn := h.len
  have gn := g.len
  have hb1 : n ≤ 9223372036854775807 := by have := hn.2; unfold maxLen at this; omega
  have hb2 : m ≤ 9223372036854775807 := by have := gn.2; unfold maxLen at this; omega
  have H := fun k (hk : k < n) => h.cell hk
  have HH := Lib.hid H
  have G := fun k (hk : k < m) => g.cell hk
  have GG := Lib.hid G
  have HN := Lib.hid hn.1
  have GN := Lib.hid gn.1
  clear H G h g hn gn
  by_cases hnm : n = m
  · subst hnm
    go_enter Tryd.func102, Tryd.ntmps102
    go_wp2
    go_loopw [5, 13] (fun _ i wr => ∃ k q : Nat, k ≤ n ∧ i = .int .i64 k ∧ Hid (∀ i, i < k → xs[i]? = ys[i]?) ∧ wr = w.drewN q) (fun _ i _ => n - (intOf i).toNat)
    case atStart => exact ⟨0, 0, Nat.zero_le _, rfl, fun i hi => absurd hi (by omega), rfl⟩
    case round =>
      obtain ⟨k, q, hk, rfl, hp, rfl⟩ := hrel
      have HP := Lib.hid hp
      clear hp
      by_cases hlt : k < n
      · obtain ⟨a, x, rfl, hx, hc1⟩ := HH.out k hlt
        obtain ⟨b, y, rfl, hy, hc2⟩ := GG.out k hlt
        have hi0 : (0 : Int) ≤ (k : Int) := Int.natCast_nonneg _
        have hi1 : (k : Int) < (n : Int) := by omega
        have HX := Lib.hid hx
        have HY := Lib.hid hy
        clear hx hy
        have hs : (x.toList == y.toList) = decide (x = y) := by
          rw [ByteArray.toList_eq, ByteArray.toList_eq]
          by_cases e : x = y
          · simp [e]
          · simp [e]
            intro h
            exact e (ByteArray.ext h)
        by_cases hxy : x = y
        · subst hxy
          clear hs
          go_wp2_with fail
          go_quiet (fail)
          go_wp2
          go_roundw
          case rel =>
            refine ⟨k + 1, _, by omega, by go_num, fun i hi => ?_, rfl⟩
            by_cases hik : i < k
            · exact HP.out.out i hik
            · obtain rfl : i = k := by omega
              rw [HX.out, HY.out]
          case measure => simp [intOf]; omega
        · rw [decide_eq_false hxy] at hs
          go_wp2_with fail
          go_quiet (fail)
          go_wp2
          go_ret
          have hd : decide (xs = ys) = false := decide_eq_false fun e => by
            have := HX.out
            rw [e, HY.out] at this
            exact hxy (Option.some.inj this).symm
          refine ⟨_, ?_, World.drewN_drewN _ _ _⟩
          rw [hd]
          rfl
      · obtain rfl : k = n := by omega
        go_wp2
        go_ret
        refine ⟨q, ?_, rfl⟩
        rw [decide_eq_true (prefix_eq HP.out.out HN.out.symm GN.out.symm)]
        rfl
  · have hne : ((n : Int) == (m : Int)) = false := by rw [beq_eq_false_iff_ne]; omega
    go_enter Tryd.func102, Tryd.ntmps102
    go_wp2
    go_ret
    have hd : decide (xs = ys) = false := decide_eq_false fun e => by
      have := HN.out
      rw [e, ← GN.out] at this
      exact hnm this
    refine ⟨0, ?_, rfl⟩
    rw [hd]
    rfl

theorem linesEqual_any (w : World) (v u : Value) (xs ys : List ByteArray) (h : Strs w v xs) (g : Strs w u ys) :
    Calls Tryd.prog 99 #[v, u] w (Flag (decide (xs = ys)) w) := by
  go_enter Tryd.func99, Tryd.ntmps99
  go_wp2_with (go_at_call 102; refine (equal_any w v u xs ys h g).mono ?_; rintro e w1 ⟨q, rfl, rfl⟩)
  go_ret
  exact ⟨q, rfl, rfl⟩

/-- All bytes of a row, one behind the other. -/
def cat (xs : List ByteArray) : List UInt8 := (xs.map (·.data.toList)).flatten

/-- Join of what came in. -/
theorem join_any (w : World) (v : Value) (xs : List ByteArray) (h : Strs w v xs) (hl : (cat xs).length ≤ 2000000) (hc : xs.length ≤ 2000000) :
    Calls Tryd.prog 84 #[v] w fun e w' => e = .returned (.string (mk (cat xs))) ∧ Below w.heap.size w w' := by
  obtain ⟨A, c, rfl, h1, h2, h3, h4⟩ := h
  by_cases h0 : xs.length = 0
  · have : xs = [] := List.eq_nil_of_length_eq_zero h0
    subst this
    go_enter Tryd.func84, Tryd.ntmps84
    go_wp2_with (go_at_call 96; refine (Tryd.strings_Join_none _ _ _ _).mono ?_; rintro e w1 ⟨rfl, rfl⟩)
    go_ret
    exact ⟨rfl, Below.refl _ _⟩
  · obtain ⟨ad, rfl⟩ : ∃ ad, A = some ad := by
      cases A with
      | none => have := h3 rfl; omega
      | some ad => exact ⟨ad, rfl⟩
    have hc0 := h4 ad rfl 0 xs[0] (List.getElem?_eq_getElem (by omega))
    obtain ⟨g, o, spot⟩ := ad
    have hspot : spot = none := by simpa [Addr.add] using World.cell?_spot hc0
    subst hspot
    have hcells : ∀ (j : Nat) x, xs[j]? = some x → w.cell? ⟨g, o + j, none⟩ = some (.string x) := by
      intro j x hx
      have := h4 _ rfl j x hx
      rw [Go.WideShapes.add_plain] at this
      exact this
    have hg : g < w.heap.size := by
      have := World.block_lt_of_cell? w _ (hcells 0 xs[0] (List.getElem?_eq_getElem (by omega)))
      exact this
    have e : Lib.join (xs.map (·.data.toList)) (⟨#[]⟩ : ByteArray).data.toList = cat xs := intercalate_none _
    have J := Tryd.strings_Join g o c xs ⟨#[]⟩ w hcells hg (by omega) h1 (by rw [e]; omega)
    rw [e] at J
    have JJ := Lib.hid J
    clear J e hcells hc0 h4 h3
    go_enter Tryd.func84, Tryd.ntmps84
    go_wp2_with (go_at_call 96; refine JJ.out.mono ?_; rintro e w1 ⟨rfl, hb1⟩)
    go_ret
    exact ⟨rfl, hb1⟩

theorem cat_take (xs : List ByteArray) (k : Nat) (x : ByteArray) (h : xs[k]? = some x) : mk (cat (xs.take (k + 1))) = mk (cat (xs.take k)) ++ x := by
  apply ByteArray.ext
  apply Array.toList_inj.1
  rw [List.take_add_one, h]
  simp [mk, cat]

theorem cat_le (xs : List ByteArray) (k : Nat) : (cat (xs.take k)).length ≤ (cat xs).length := by
  have : cat xs = cat (xs.take k) ++ cat (xs.drop k) := by
    conv => lhs; rw [← List.take_append_drop k xs]
    simp only [cat, List.map_append, List.flatten_append]
  rw [this, List.length_append]
  omega

end Go.Proofs.YtdpoeagmeiedcaaDoor
