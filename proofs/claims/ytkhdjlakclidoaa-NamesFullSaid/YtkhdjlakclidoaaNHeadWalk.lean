/-
  The walk of NamesHead.
-/
import Derived.Test.YtkhdjlakclidoaaNSwapWalk
namespace Go.Proofs.Ytkhdjlakclidoaa
open Go.RowKit

/-- A block that is neither the table's nor a row of names is as it was. -/
theorem Did.keep {w w' : World} {B T : Nat} {v : Value} {c : Int} {l l' : List Rf} {br br' : ByteArray} {d d' : Int} {e : Ending} {H : Nat} {t : TypeId} {cs : Array Value}
    (ht : Hid (Tab w B T v l br d)) (hD : Did w B T v c l' br' d' e w') (hH : Hid (Blk w H t cs)) (hn : ¬ 43 = t) (hT : ¬ H = T) : Hid (Blk w' H t cs) := by
  obtain ⟨_, v', _, h2, _⟩ := hD
  exact (h2.block H hH.out.lt hT (fun e => own_blk_ne ht.out.own hH.out hn e.symm)).trans hH.out

theorem mset0 (t : Int) (h : 1 ≤ t) : movC [] mainB t = 0 ∧ movL [] mainB t = [(mainB, t)] ∧ movD mainB 0 t = 0 := by
  have h1 : setC [] mainB t = 0 := by unfold setC; rw [good_main, if_pos rfl, if_neg (by omega)]; rfl
  have h2 : setL [] mainB t = [(mainB, t)] := by unfold setL; rw [h1]; rfl
  exact ⟨h1, h2, rfl⟩
theorem hset1 (p t : Int) (h : 1 ≤ t) : setC [(mainB, p)] devB t = 0 ∧ setL [(mainB, p)] devB t = [(devB, t), (mainB, p)] := by
  have hh : hasB [(mainB, p)] devB = false := by kernel_rfl
  have h1 : setC [(mainB, p)] devB t = 0 := by unfold setC; rw [good_dev, if_pos rfl, if_neg (by omega), hh]; rfl
  exact ⟨h1, by unfold setL; rw [h1]; rfl⟩
theorem has2 (p q : Int) : hasB [(devB, q), (mainB, p)] devB = true := by kernel_rfl
theorem hset2 (p q t : Int) (h : 1 ≤ t) : movC [(devB, q), (mainB, p)] devB t = 0 ∧ movL [(devB, q), (mainB, p)] devB t = [(devB, t), (mainB, p)] ∧ movD devB 0 t = 0 := by
  have h1 : setC [(devB, q), (mainB, p)] devB t = 0 := by unfold setC; rw [good_dev, if_pos rfl, if_neg (by omega), has2, if_pos rfl]
  exact ⟨h1, by show setL _ _ _ = _; unfold setL; rw [h1]; rfl, rfl⟩
theorem det1 (t d : Int) (br : ByteArray) (h : 1 ≤ t) : detC t = 0 ∧ detB br t = ⟨#[]⟩ ∧ detD d t = t := by
  have : ¬ t < 1 := by omega
  unfold detC detB detD
  simp only [this, if_false, and_self]

set_option maxRecDepth 100000 in
set_option maxHeartbeats 4000000 in
theorem head_walk (a b c : Int) (ha0 : 0 ≤ a) (ha1 : a ≤ 255) (hb0 : 0 ≤ b) (hb1 : b ≤ 255) (hc0 : 0 ≤ c) (hc1 : c ≤ 255) (w : World) :
    Calls Try.prog 6 #[.int .u8 a, .int .u8 b, .int .u8 c] w (YesB w) := by
  obtain ⟨N, hN⟩ : ∃ N, N = w.heap.size := ⟨_, rfl⟩
  have HN := Lib.hid hN
  have hdv : devB.toList = [100, 101, 118] := by rw [ByteArray.toList_eq]; rfl
  go_enter Try.func6, Try.ntmps6
  go_wp2_with fail
  refine (known_yes w).mono ?_
  rintro e w0 ⟨rfl, b0⟩
  rw [← hN] at b0
  clear hN
  go_wp2_with fail
  refine (new_any w0).mono ?_
  rintro e w1 ⟨rfl, t1, b1'⟩
  have hNB : N ≤ w0.heap.size := by have := b0.size; rw [← HN.out] at this; exact this
  have T1 := Lib.hid t1
  have b1 : Below N w w1 := b0.trans (b1'.mono hNB)
  clear b1'
  generalize w0.heap.size = B at *
  clear t1 b0
  go_wp2_with fail
  refine (move_any w1 B B _ [] mainB 0 (1 + a) T1.out (by decide) (by omega) (by omega)).mono ?_
  intro e w2 hD
  have k := mset0 (1 + a) (by omega)
  obtain ⟨rfl, v2, T2, b2⟩ := Did.go T1 hD b1 hNB k.1 k.2.1 rfl k.2.2
  clear hD b1 T1 k
  go_wp2_with fail
  refine (set_any w2 B B v2 _ mainB devB 0 (1 + b) T2.out (by decide) (by omega) (by omega)).mono ?_
  intro e w3 hD
  have k := hset1 (1 + a) (1 + b) (by omega)
  obtain ⟨rfl, v3, T3, b3⟩ := Did.go T2 hD b2 hNB k.1 k.2 rfl rfl
  clear hD b2 T2 k
  go_wp2_with fail
  refine (att_any w3 B B v3 _ mainB devB 0 T3.out (by decide)).mono ?_
  intro e w4 hD
  obtain ⟨rfl, v4, T4, b4⟩ := Did.go T3 hD b3 hNB (c' := 0) (br'' := devB) (d'' := 0) (by kernel_rfl) rfl (by kernel_rfl) (by kernel_rfl)
  clear hD b3 T3
  go_wp2_with fail
  refine (move_any w4 B B v4 _ devB 0 (1 + c) T4.out (by decide) (by omega) (by omega)).mono ?_
  intro e w5 hD
  have k := hset2 (1 + a) (1 + b) (1 + c) (by omega)
  obtain ⟨rfl, v5, T5, b5⟩ := Did.go T4 hD b4 hNB k.1 k.2.1 rfl k.2.2
  clear hD b4 T4 k
  go_wp2_with fail
  refine (get_is w5 B B v5 _ devB mainB 0 T5.out (1 + a) true (by kernel_rfl) (by kernel_rfl)).mono ?_
  rintro e w6 ⟨rfl, hb⟩
  obtain ⟨T6, b6⟩ := Tab.go T5 hb b5 hNB
  clear hb b5 T5
  go_wp2_with fail
  refine (get_is w6 B B v5 _ devB devB 0 T6.out (1 + c) true (by kernel_rfl) (by kernel_rfl)).mono ?_
  rintro e w7 ⟨rfl, hb⟩
  obtain ⟨T7, b7⟩ := Tab.go T6 hb b6 hNB
  clear hb b6 T6
  go_wp2_with fail
  refine (head_any w7 B B v5 _ devB 0 T7.out).mono ?_
  rintro e w8 ⟨rfl, hb⟩
  obtain ⟨T8, b8⟩ := Tab.go T7 hb b7 hNB
  have HC : headC [(devB, 1 + c), (mainB, 1 + a)] devB 0 = 1 + c := by kernel_rfl
  rw [HC]
  clear hb b7 T7 HC
  go_wp2_with fail
  have lt8 := T8.out.blk.lt
  have H8 := Lib.hid (Blk.new w8 39 #[.string devB, .int .i64 (1 + c)])
  obtain ⟨T9, b9⟩ := Tab.go T8 ((Below.refl w8.heap.size w8).alloc (Nat.le_refl _) (.cells #[.string devB, .int .i64 (1 + c)] 39)) b8 hNB
  have ne8 : ¬ w8.heap.size = B := by omega
  refine (det_any _ B B v5 _ devB 0 (1 + a) T9.out).mono ?_
  intro e w10 hD
  have k := det1 (1 + a) 0 devB (by omega)
  have H10 := Did.keep T9 hD H8 (by decide) ne8
  obtain ⟨rfl, v10, T10, b10⟩ := Did.go T9 hD b9 hNB k.1 rfl k.2.1 k.2.2
  clear hD b8 b9 T8 T9 k H8
  go_wp2_with fail
  refine (move_any w10 B B v10 _ ⟨#[]⟩ (1 + a) (1 + c + 5) T10.out (by decide) (by omega) (by omega)).mono ?_
  intro e w11 hD
  have k := det1 (1 + c + 5) (1 + a) devB (by omega)
  have H11 := Did.keep T10 hD H10 (by decide) ne8
  obtain ⟨rfl, v11, T11, b11⟩ := Did.go T10 hD b10 hNB (c' := 0) (l'' := [(devB, 1 + c), (mainB, 1 + a)]) (br'' := ⟨#[]⟩) (d'' := 1 + c + 5) k.1 rfl rfl k.2.2
  clear hD b10 T10 k H10
  go_wp2_with fail
  refine (head_any w11 B B v11 _ ⟨#[]⟩ (1 + c + 5) T11.out).mono ?_
  rintro e w12 ⟨rfl, hb⟩
  have H12 := Lib.hid (H11.out.below hb H11.out.lt)
  obtain ⟨T12, b12⟩ := Tab.go T11 hb b11 hNB
  have HC : headC [(devB, 1 + c), (mainB, 1 + a)] ⟨#[]⟩ (1 + c + 5) = 1 + c + 5 := by kernel_rfl
  rw [HC]
  clear hb b11 T11 HC H11
  go_wp2_with fail
  have K12 := Lib.hid (Blk.new w12 39 #[.string ⟨#[]⟩, .int .i64 (1 + c + 5)])
  have H13 := Lib.hid (H12.out.alloc (.cells #[.string ⟨#[]⟩, .int .i64 (1 + c + 5)] 39))
  obtain ⟨T13, b13⟩ := Tab.go T12 ((Below.refl w12.heap.size w12).alloc (Nat.le_refl _) (.cells #[.string ⟨#[]⟩, .int .i64 (1 + c + 5)] 39)) b12 hNB
  refine (get_is _ B B v11 _ ⟨#[]⟩ devB (1 + c + 5) T13.out (1 + c) true (by kernel_rfl) (by kernel_rfl)).mono ?_
  rintro e w14 ⟨rfl, hb⟩
  have H14 := H13.out.below hb H13.out.lt
  have K14 := K12.out.below hb K12.out.lt
  obtain ⟨T14, b14⟩ := Tab.go T13 hb b13 hNB
  have y0 : w14.cell? ⟨w8.heap.size, 0, none⟩ = some (.string devB) := H14.cell 0
  have y1 : w14.cell? ⟨w8.heap.size, 1, none⟩ = some (.int .i64 (1 + c)) := H14.cell 1
  have z0 : w14.cell? ⟨w12.heap.size, 0, none⟩ = some (.string ⟨#[]⟩) := K14.cell 0
  have z1 : w14.cell? ⟨w12.heap.size, 1, none⟩ = some (.int .i64 (1 + c + 5)) := K14.cell 1
  clear hb b12 b13 T12 T13 T14 H12 H13 K12 H14 K14
  go_wp2_with fail
  go_ret
  exact ⟨rfl, by rw [← HN.out]; exact b14⟩
end Go.Proofs.Ytkhdjlakclidoaa
