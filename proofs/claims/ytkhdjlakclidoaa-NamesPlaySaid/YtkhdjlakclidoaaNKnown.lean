/-
  The closed play 'known' answers true.
-/
import Derived.Test.YtkhdjlakclidoaaNDo2
namespace Go.Proofs.Ytkhdjlakclidoaa
open Go.RowKit

def YesB (w : World) (e : Ending) (w' : World) : Prop := e = .returned (.bool true) ∧ Below w.heap.size w w'
def devB : ByteArray := ⟨#[100, 101, 118]⟩

theorem Did.go {N : Nat} {W w w' : World} {B T : Nat} {v : Value} {c c' : Int} {l l' l'' : List Rf} {br br' br'' : ByteArray} {d d' d'' : Int} {e : Ending}
    (ht : Hid (Tab w B T v l br d)) (hD : Did w B T v c l' br' d' e w') (hW : Below N W w) (hN : N ≤ B) (hc : c = c') (hl : l' = l'') (hb : br' = br'') (hd : d' = d'') :
    e = .returned (.int .i64 c') ∧ ∃ v', Hid (Tab w' B T v' l'' br'' d'') ∧ Below N W w' := by
  subst hc; subst hl; subst hb; subst hd
  obtain ⟨he, v', h1, h2, _⟩ := hD
  have hT := ht.out
  refine ⟨he, v', h1, hW.trans (h2.below (Nat.le_trans hN hT.lo) (fun g hg => Nat.le_trans hN (own_le_block hT.own g hg)) ?_)⟩
  have := hT.blk.lt
  have := hT.lo
  omega
theorem Tab.go {N : Nat} {W w w' : World} {B T : Nat} {v : Value} {l : List Rf} {br : ByteArray} {d : Int} (ht : Hid (Tab w B T v l br d)) (hb : Below w.heap.size w w') (hW : Below N W w) (hN : N ≤ B) : Hid (Tab w' B T v l br d) ∧ Below N W w' := by
  have hT := ht.out
  have := hT.blk.lt
  have := hT.lo
  exact ⟨hT.below hb, hW.trans (hb.mono (by omega))⟩

set_option maxHeartbeats 4000000 in
theorem known_yes (w : World) : Calls Try.prog 7 #[] w (YesB w) := by
  go_enter Try.func7, Try.ntmps7
  go_wp2_with fail
  refine (new_any w).mono ?_
  rintro e w1 ⟨rfl, t1, b1⟩
  have T1 := Lib.hid t1
  generalize hB : w.heap.size = B at *
  have HB := Lib.hid hB
  clear t1 hB
  go_wp2_with fail
  refine (move_any w1 B B _ [] mainB 0 1 T1.out (by decide) (by decide) (by decide)).mono ?_
  intro e w2 hD
  obtain ⟨rfl, v2, T2, b2⟩ := Did.go T1 hD b1 (Nat.le_refl _) (c' := 0) (l'' := [(mainB, 1)]) (br'' := mainB) (d'' := 0) (by kernel_rfl) (by kernel_rfl) rfl (by kernel_rfl)
  clear hD b1 T1
  go_wp2_with fail
  refine (set_any w2 B B v2 _ mainB devB 0 2 T2.out (by decide) (by decide) (by decide)).mono ?_
  intro e w3 hD
  obtain ⟨rfl, v3, T3, b3⟩ := Did.go T2 hD b2 (Nat.le_refl _) (c' := 0) (l'' := [(devB, 2), (mainB, 1)]) (br'' := mainB) (d'' := 0) (by kernel_rfl) (by kernel_rfl) rfl rfl
  clear hD b2 T2
  go_wp2_with fail
  refine (swap_any w3 B B v3 _ mainB devB 0 2 3 T3.out (by decide) (by decide) (by decide) (by decide) (by decide)).mono ?_
  intro e w4 hD
  obtain ⟨rfl, v4, T4, b4⟩ := Did.go T3 hD b3 (Nat.le_refl _) (c' := 0) (l'' := [(devB, 3), (mainB, 1)]) (br'' := mainB) (d'' := 0) (by kernel_rfl) (by kernel_rfl) rfl rfl
  clear hD b3 T3
  go_wp2_with fail
  refine (swap_any w4 B B v4 _ mainB devB 0 2 4 T4.out (by decide) (by decide) (by decide) (by decide) (by decide)).mono ?_
  intro e w5 hD
  obtain ⟨rfl, v5, T5, b5⟩ := Did.go T4 hD b4 (Nat.le_refl _) (c' := 7) (l'' := [(devB, 3), (mainB, 1)]) (br'' := mainB) (d'' := 0) (by kernel_rfl) (by kernel_rfl) rfl rfl
  clear hD b4 T4
  go_wp2_with fail
  refine (get_is w5 B B v5 _ mainB devB 0 T5.out 3 true (by kernel_rfl) (by kernel_rfl)).mono ?_
  rintro e w6 ⟨rfl, hb⟩
  obtain ⟨T6, b6⟩ := Tab.go T5 hb b5 (Nat.le_refl _)
  clear hb b5 T5
  go_wp2_with fail
  refine (del_any w6 B B v5 _ mainB mainB 0 T6.out).mono ?_
  intro e w7 hD
  obtain ⟨rfl, v7, T7, b7⟩ := Did.go T6 hD b6 (Nat.le_refl _) (c' := 7) (l'' := [(devB, 3), (mainB, 1)]) (br'' := mainB) (d'' := 0) (by kernel_rfl) (by kernel_rfl) rfl rfl
  clear hD b6 T6
  go_wp2_with fail
  refine (att_any w7 B B v7 _ mainB devB 0 T7.out (by decide)).mono ?_
  intro e w8 hD
  obtain ⟨rfl, v8, T8, b8⟩ := Did.go T7 hD b7 (Nat.le_refl _) (c' := 0) (l'' := [(devB, 3), (mainB, 1)]) (br'' := devB) (d'' := 0) (by kernel_rfl) rfl (by kernel_rfl) (by kernel_rfl)
  clear hD b7 T7
  go_wp2_with fail
  refine (head_any w8 B B v8 _ devB 0 T8.out).mono ?_
  rintro e w9 ⟨rfl, hb⟩
  obtain ⟨T9, b9⟩ := Tab.go T8 hb b8 (Nat.le_refl _)
  have HC : headC [(devB, 3), (mainB, 1)] devB 0 = 3 := by kernel_rfl
  rw [HC]
  clear hb b8 T8 HC
  go_wp2_with fail
  have n9 := Blk.new w9 39 #[.string devB, .int .i64 3]
  refine (row_any _ B B v8 _ devB 0 (T9.out.alloc _)).mono ?_
  rintro e w10 ⟨v10, rfl, o10, hb⟩
  have b10 : Below B w w10 := (b9.alloc (Nat.le_of_lt T9.out.blk.lt) _).trans (hb.mono (by have := T9.out.blk.lt; simp; omega))
  have n10 := n9.below hb (by simp)
  obtain ⟨g, cap, rfl, x0, x1, g0, g1, hn, hmx, hg⟩ := Own.at_ o10 (k := 0) rfl
  have y0 := n10.cell 0
  have y1 := n10.cell 1
  have G1 := Lib.hid fun W => good_any ⟨#[97, 45, 49]⟩ W (by decide)
  have G2 := Lib.hid fun W => good_any ⟨#[49, 97]⟩ W (by decide)
  have e1 : goodN ⟨#[97, 45, 49]⟩ = true := by kernel_rfl
  have e2 : goodN ⟨#[49, 97]⟩ = false := by kernel_rfl
  rw [e1] at G1
  rw [e2] at G2
  have hdv : devB.toList = [100, 101, 118] := by rw [ByteArray.toList_eq]; rfl
  have hcap : 0 < cap := by simp at hn; omega
  have Y0 : w10.cell? ⟨w9.heap.size, 0, none⟩ = some (.string devB) := y0
  have Y1 : w10.cell? ⟨w9.heap.size, 1, none⟩ = some (.int .i64 3) := y1
  have X0 : w10.cell? ⟨g, 0, none⟩ = some (.string devB) := x0
  clear y0 y1 x0 x1 n9 n10 o10 hb b9 T9 g0 g1 hn hmx hg e1 e2
  go_wp2_with fail
  refine (G1.out _).mono ?_
  rintro e w' ⟨rfl, rfl⟩
  go_wp2_with fail
  refine (G2.out _).mono ?_
  rintro e w' ⟨rfl, rfl⟩
  go_wp2_with fail
  go_ret
  refine ⟨rfl, ?_⟩
  rw [HB.out]
  exact b10
end Go.Proofs.Ytkhdjlakclidoaa
