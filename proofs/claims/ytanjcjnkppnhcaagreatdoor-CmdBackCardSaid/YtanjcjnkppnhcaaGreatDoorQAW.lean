/-
  rectoref17.Text: steps in words.
-/
import Derived.Test.YtanjcjnkppnhcaaGreatDoorQAP
import Derived.Deep.RegionHeld3

namespace Go.Proofs.YtanjcjnkppnhcaaGreatDoor
open Go Go.RowKit

attribute [-go_sem] run_string_add_if
set_option maxRecDepth 100000 in
set_option maxHeartbeats 8000000 in
theorem refText_all (w : World) (v : Value) (l : List Fl) (h : Reads 3 cF w v l) (hl : l.length ≤ 100) (h2 : ∀ x ∈ l, StepOkG x) :
    Calls Tryz.prog 20 #[v] w fun e w' => e = .returned (.string ⟨(stepsG l).toArray⟩) ∧ Below w.heap.size w w' := by
  obtain ⟨A, c, rfl⟩ := h.form
  have HH := Lib.hid h
  have H2 := Lib.hid h2
  have ln0 : (0 : Int) ≤ (l.length : Int) := Int.natCast_nonneg _
  have ln9 : (l.length : Int) ≤ 100 := by omega
  clear h h2
  go_enter Tryz.func20, Tryz.ntmps20
  go_wp2_with fail
  go_loopw [3, 4] (fun s3 s4 wr => ∃ (k : Nat) (t : ByteArray), k ≤ l.length ∧ s4 = .int .i64 k ∧ s3 = .string t ∧ Hid (t.data.toList = stepsG (l.take k)) ∧ Hid (Below w.heap.size w wr)) (fun _ s4 _ => l.length - (intOf s4).toNat)
  case atStart => exact ⟨0, ⟨#[]⟩, Nat.zero_le _, rfl, rfl, Lib.hid rfl, Lib.hid (Below.refl _ _)⟩
  case round =>
    obtain ⟨k, t, hk, rfl, rfl, hI, hB⟩ := hrel
    have k0 : (0 : Int) ≤ (k : Int) := Int.natCast_nonneg _
    by_cases hlt : k < l.length
    · have k1 : (k : Int) < (l.length : Int) := by omega
      obtain ⟨x, hx⟩ : ∃ x, l[k]? = some x := ⟨_, List.getElem?_eq_getElem hlt⟩
      obtain ⟨ad, rfl, c0, c1, c2⟩ := Fils.at_ (HH.out.below hB.out) hx
      obtain ⟨s1x, s2x, s3x, s4x⟩ := H2.out x (List.mem_of_getElem? hx)
      have hTL := stepsG_le (l := l.take k) (fun y hy => H2.out y (List.mem_of_mem_take hy))
      rw [List.length_take] at hTL
      have htz : t.size ≤ 300000 := by rw [← size_listB, hI.out]; omega
      have HTK := Lib.hid (show stepsG (l.take (k + 1)) = stepsG (l.take k) ++ stepG x by unfold stepsG; obtain ⟨hk', rfl⟩ := List.getElem?_eq_some_iff.1 hx; rw [List.take_succ_eq_append_getElem hk', List.flatMap_append]; simp)
      obtain ⟨vb, cc, tx⟩ := x
      dsimp only at c0 c1 c2 s1x s2x s3x s4x
      have y1 := numB_size s3x s4x
      have z1 : (ByteArray.mk #[32]).size = 1 := rfl
      have z2 : (ByteArray.mk #[10]).size = 1 := rfl
      obtain ⟨s1, e1, n1, p1⟩ := sum_namedT t vb (by omega)
      obtain ⟨s2, e2, n2, p2⟩ := sum_namedT s1 ⟨#[32]⟩ (by omega)
      obtain ⟨s3, e3, n3, p3⟩ := sum_namedT s2 (numB cc) (by omega)
      obtain ⟨s4, e4, n4, p4⟩ := sum_namedT s3 ⟨#[32]⟩ (by omega)
      obtain ⟨s5, e5, n5, p5⟩ := sum_namedT s4 tx (by omega)
      obtain ⟨s6, e6, n6, p6⟩ := sum_namedT s3 ⟨#[10]⟩ (by omega)
      obtain ⟨s7, e7, n7, p7⟩ := sum_namedT s5 ⟨#[10]⟩ (by omega)
      have eM : Hid (s6.data.toList = stepsG (l.take k) ++ vb.data.toList ++ [32] ++ Lib.itoa cc ++ [10]) := Lib.hid (by rw [e6, e3, e2, e1, data_app, data_app, data_app, data_app, hI.out]; unfold numB; simp)
      have eM7 : Hid (s7.data.toList = stepsG (l.take k) ++ vb.data.toList ++ [32] ++ Lib.itoa cc ++ [32] ++ tx.data.toList ++ [10]) := Lib.hid (by rw [e7, e5, e4, e3, e2, e1, data_app, data_app, data_app, data_app, data_app, data_app, hI.out]; unfold numB; simp)
      have DC := Lib.hid fun W => refDecimal_all cc s3x s4x W
      have HLT := Lib.hid hlt
      have q0 : (wr.drew).cell? (ad.add (k * 3)) = some (.string vb) ∧ (wr.drew).cell? ⟨(ad.add (k * 3)).block, (ad.add (k * 3)).off + 1, none⟩ = some (.int .i64 cc) := ⟨c0, c1⟩
      have Q2 := Lib.hid c2
      have dd : Below wr.heap.size wr wr.drew := (Below.refl _ _).drew
      have LT0 := Lib.hid (World.block_lt_of_cell? _ _ c0)
      have LT2 := Lib.hid (World.block_lt_of_cell? _ _ c2)
      have DD := Lib.hid dd
      clear hx hTL hI e1 e2 e3 e4 e5 e6 e7 n1 n2 n3 n4 n5 n6 n7 z1 z2 s1x s2x s3x s4x hlt hk htz dd c2
      go_upto_region 5 with fail
      go_region_held3 (fun w' => w'.cell? (ad.add (k * 3)) = some (.string vb) ∧ w'.cell? ⟨(ad.add (k * 3)).block, (ad.add (k * 3)).off + 1, none⟩ = some (.int .i64 cc)) (first | exact q0 | exact q1) (first | (go_at_call 48; (with_reducible refine (DC.out _).mono ?_); rintro e w1 ⟨rfl, b1⟩; have B1 := Lib.hid (hB.out.trans ((DD.out.trans (b1.mono DD.out.size)).mono hB.out.size)); have q1 := (show w1.cell? (ad.add (k * 3)) = some (.string vb) ∧ w1.cell? ⟨(ad.add (k * 3)).block, (ad.add (k * 3)).off + 1, none⟩ = some (.int .i64 cc) from ⟨(b1.cell LT0.out).trans q0.1, (b1.cell (p := ⟨(ad.add (k * 3)).block, (ad.add (k * 3)).off + 1, none⟩) LT0.out).trans q0.2⟩); have r2 := ((b1.cell LT2.out).trans Q2.out : w1.cell? ⟨(ad.add (k * 3)).block, (ad.add (k * 3)).off + 2, none⟩ = some (.string tx))))
      all_goals
        obtain ⟨r0, r1⟩ := q1
        clear q0 c0 c1 b1 hB
        cases hr : (vb.toList == [114, 101, 119, 111, 114, 100]) with
        | false =>
          have HF := Lib.hid (show s6.data.toList = stepsG (l.take (k + 1)) by rw [HTK.out, eM.out]; unfold stepG; dsimp only; rw [hr, if_neg (by simp)]; simp)
          clear p1 p2 p3 p4 p5 p7
          go_wp2_with fail
          go_roundw
          case rel => exact ⟨k + 1, s6, by have := HLT.out; omega, by go_num, rfl, HF, B1⟩
          case measure => have := HLT.out; simp [intOf]; omega
        | true =>
          have HF := Lib.hid (show s7.data.toList = stepsG (l.take (k + 1)) by rw [HTK.out, eM7.out]; unfold stepG; dsimp only; rw [hr, if_pos rfl]; simp)
          clear p1 p2 p3 p6
          go_wp2_with fail
          go_roundw
          case rel => exact ⟨k + 1, s7, by have := HLT.out; omega, by go_num, rfl, HF, B1⟩
          case measure => have := HLT.out; simp [intOf]; omega
    · obtain rfl : k = l.length := by omega
      clear hlt
      go_wp2
      go_ret
      refine ⟨?_, hB.out⟩
      have := hI.out
      rw [List.take_length] at this
      rw [← this]
      rfl
end Go.Proofs.YtanjcjnkppnhcaaGreatDoor
