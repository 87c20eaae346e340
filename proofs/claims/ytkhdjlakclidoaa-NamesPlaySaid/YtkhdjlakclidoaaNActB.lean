/-
  What an act of the document's table leaves; an act that is none.
-/
import Derived.Test.YtkhdjlakclidoaaNDSet
import Derived.BigQuiet
import Derived.Deep.QuietTactic
namespace Go.Proofs.Ytkhdjlakclidoaa
open Go Go.RowKit

/-- What an act leaves: the answer, the table. -/
def Acted (w : World) (B T : Nat) (v : Value) (c : Int) (l : List Rf) (br : ByteArray) (d : Int) (e : Ending) (w' : World) : Prop :=
  e = .returned (.int .i64 c) ∧ ∃ v', Own w' B v' l ∧ Blk w' T 29 #[v', .string br, .int .i64 d] ∧ B ≤ T ∧ Two w w' T v.ownBlock ∧ ∀ g, v'.ownBlock = some g → v.ownBlock = some g ∨ w.heap.size ≤ g
theorem acted_same {w w' : World} {B T : Nat} {v : Value} {l : List Rf} {br : ByteArray} {d : Int} (c : Int) (h : Doc w B T v l br d) (hb : Below w.heap.size w w') : Acted w B T v c l br d (.returned (.int .i64 c)) w' :=
  ⟨rfl, v, (h.below hb).own, (h.below hb).blk, h.lo, Two.of_below hb _ _, fun _ hg => .inl hg⟩
/-- Behind a setting of a name, in a world with one block more. -/
theorem acted_set {w w' : World} {B T : Nat} {v : Value} {l l' : List Rf} {br : ByteArray} {d : Int} {e : Ending} (o : Obj) (h : Doc w B T v l br d) (hs : SetS (w.alloc o) B T v l' br d e w') : e = .returned (.tuple #[]) ∧ Acted w B T v 0 l' br d (.returned (.int .i64 0)) w' := by
  obtain ⟨he, v', o', b', t', hB⟩ := hs
  refine ⟨he, rfl, v', ?_, b', hB, (Two.of_below ((Below.refl _ _).alloc (Nat.le_refl _) _) _ _).trans t' (.inl rfl), fun g hg => .inr ?_⟩
  · obtain ⟨h1, h2⟩ := o'
    refine ⟨h1, h2.imp id ?_⟩
    rintro ⟨g, cap, cur, hv, hg, r⟩
    refine ⟨g, cap, cur, hv, ?_, r⟩
    have := h.blk.lt
    simp at hg
    omega
  · have := (World.ownsRow.lt o' g hg).1
    simp at this
    omega

set_option maxRecDepth 100000 in
set_option maxHeartbeats 2000000 in
theorem act_none (w : World) (B T : Nat) (v : Value) (l : List Rf) (br nm : ByteArray) (d op N M : Int) (hnm : nm.size ≤ 1000000) (h : Doc w B T v l br d) (ho : op < 1 ∨ 6 < op) :
    Calls Try.prog 16 #[.pointer (some ⟨T, 0, none⟩), .agg #[.int .i64 op, .int .i64 N, .int .i64 M, .string nm]] w (Acted w B T v 0 l br d) := by
  have HD := Lib.hid h
  have HA := Lib.hid (h.alloc (.cells #[.int .i64 op, .int .i64 N, .int .i64 M, .string nm] 31))
  obtain ⟨A, cap, rfl⟩ := own_form h.own
  have hfew := h.few
  have hTw : T ≠ w.heap.size := by have := h.blk.lt; omega
  obtain ⟨c0, c1, c2, f0, f1, f2⟩ := (h.alloc (.cells #[.int .i64 op, .int .i64 N, .int .i64 M, .string nm] 31)).cells
  have G1 := Lib.hid (dget_any _ B T _ l br nm d HA.out)
  have G2 := Lib.hid fun W => refGood_any nm W (by omega)
  have o1 : (op == 1) = false := by rw [beq_eq_false_iff_ne]; omega
  have o2 : (op == 2) = false := by rw [beq_eq_false_iff_ne]; omega
  have o3 : (op == 3) = false := by rw [beq_eq_false_iff_ne]; omega
  have o4 : (op == 4) = false := by rw [beq_eq_false_iff_ne]; omega
  have o5 : (op == 5) = false := by rw [beq_eq_false_iff_ne]; omega
  have o6 : (op == 6) = false := by rw [beq_eq_false_iff_ne]; omega
  clear h ho
  generalize goodN nm = gd at *
  obtain ⟨kk, hkk⟩ : ∃ kk, gix l nm = kk := ⟨_, rfl⟩
  rw [hkk] at G1
  clear hkk
  by_cases hk : kk < 0
  · by_cases h64 : (64 : Int) ≤ (l.length : Int)
    · go_enter Try.func16, Try.ntmps16
      go_wp2_with fail
      refine G1.out.mono ?_
      rintro e w1 ⟨rfl, rfl⟩
      go_wp2_with fail
      refine (G2.out _).mono ?_
      rintro e w1 ⟨rfl, rfl⟩
      go_wp2
      go_ret
      exact acted_same 0 HD.out ((Below.refl _ _).alloc (Nat.le_refl _) _)
    · go_enter Try.func16, Try.ntmps16
      go_wp2_with fail
      refine G1.out.mono ?_
      rintro e w1 ⟨rfl, rfl⟩
      go_wp2_with fail
      refine (G2.out _).mono ?_
      rintro e w1 ⟨rfl, rfl⟩
      go_wp2
      go_ret
      exact acted_same 0 HD.out ((Below.refl _ _).alloc (Nat.le_refl _) _)
  · go_enter Try.func16, Try.ntmps16
    go_wp2_with fail
    refine G1.out.mono ?_
    rintro e w1 ⟨rfl, rfl⟩
    go_wp2_with fail
    refine (G2.out _).mono ?_
    rintro e w1 ⟨rfl, rfl⟩
    go_wp2
    go_ret
    exact acted_same 0 HD.out ((Below.refl _ _).alloc (Nat.le_refl _) _)
#print axioms act_none
end Go.Proofs.Ytkhdjlakclidoaa
