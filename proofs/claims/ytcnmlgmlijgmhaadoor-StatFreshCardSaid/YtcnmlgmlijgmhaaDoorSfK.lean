/-
  StatFresh's walk.
-/
import Derived.Test.YtcnmlgmlijgmhaaDoorSfI
namespace Go.Proofs.YtcnmlgmlijgmhaaDoor
open Go Go.RowKit Go.Maps

set_option maxRecDepth 100000 in
set_option maxHeartbeats 8000000 in
theorem statFresh_any (w : World) (path data : ByteArray) (stage mode time size ss st si sm written : Int) :
    Calls Tryd.prog 7 #[enV path stage mode data time size, stV ss st si sm, .int .i64 written] w fun e w' => e = .returned (.bool true) ∧ Below w.heap.size w w' := by
  have D1 := (Below.refl w.heap.size w).alloc (Nat.le_refl _) (.cells (enC path stage mode data time size) 60)
  have D2 := D1.alloc D1.size (.cells #[.int .i64 ss, .int .i64 st, .int .i64 si, .int .i64 sm] 51)
  have KN := Lib.hid (known18_any ((w.alloc (.cells (enC path stage mode data time size) 60)).alloc (.cells #[.int .i64 ss, .int .i64 st, .int .i64 si, .int .i64 sm] 51)))
  have E2 := Lib.hid ((Blk.new w 60 (enC path stage mode data time size)).alloc (.cells #[.int .i64 ss, .int .i64 st, .int .i64 si, .int .i64 sm] 51))
  have s2 := Blk.new (w.alloc (.cells (enC path stage mode data time size) 60)) 51 #[.int .i64 ss, .int .i64 st, .int .i64 si, .int .i64 sm]
  rw [show (w.alloc (.cells (enC path stage mode data time size) 60)).heap.size = w.heap.size + 1 by simp] at s2
  have S2 := Lib.hid s2
  have B2 := Lib.hid D2
  have fr := fun W => fresh29_any W path data stage mode time size ss st si sm written
  have nt := fun W => note_any W path data stage mode time size ss st si sm
  unfold enV stV at fr nt
  obtain ⟨r, hr⟩ : ∃ r, r = freshB stage mode time size ss st sm written := ⟨_, rfl⟩
  rw [← hr] at fr
  have HR := Lib.hid hr
  have FR := Lib.hid fr
  have NT := Lib.hid nt
  unfold enV stV
  clear D1 D2 s2 fr nt hr
  go_enter Tryd.func7, Tryd.ntmps7
  go_wp2_with fail
  refine KN.out.mono ?_
  rintro e w3 ⟨rfl, b3⟩
  have E3 := Lib.hid (E2.out.below b3 E2.out.lt)
  have S3 := Lib.hid (S2.out.below b3 S2.out.lt)
  have B3 := Lib.hid (B2.out.trans (b3.mono B2.out.size))
  clear KN E2 S2 B2 b3
  have e0 := E3.out.cell 0
  have e1 := E3.out.cell 1
  have e2 := E3.out.cell 2
  have e3 := E3.out.cell 3
  have e4 := E3.out.cell 4
  have e5 := E3.out.cell 5
  have s0 := S3.out.cell 0
  have s1 := S3.out.cell 1
  have s2 := S3.out.cell 2
  have s3 := S3.out.cell 3
  go_wp2_with fail
  refine (FR.out _).mono ?_
  rintro e w4 ⟨rfl, b4⟩
  have E4 := Lib.hid (E3.out.below b4 E3.out.lt)
  have S4 := Lib.hid (S3.out.below b4 S3.out.lt)
  have B4 := Lib.hid (B3.out.trans (b4.mono B3.out.size))
  clear FR E3 S3 B3 b4 e0 e1 e2 e3 e4 e5 s0 s1 s2 s3
  have e0 := E4.out.cell 0
  have e1 := E4.out.cell 1
  have e2 := E4.out.cell 2
  have e3 := E4.out.cell 3
  have e4 := E4.out.cell 4
  have e5 := E4.out.cell 5
  have s0 := S4.out.cell 0
  have s1 := S4.out.cell 1
  have s2 := S4.out.cell 2
  have s3 := S4.out.cell 3
  go_wp2_with fail
  refine (NT.out _).mono ?_
  rintro e w5 ⟨rfl, b5⟩
  have e5' := E4.out.below b5 E4.out.lt
  have s5' := S4.out.below b5 S4.out.lt
  have b5' := B4.out.trans (b5.mono B4.out.size)
  obtain ⟨X, hX⟩ : ∃ X, X = w.heap.size := ⟨_, rfl⟩
  rw [← hX] at e5' s5' ⊢
  have HX := Lib.hid hX
  clear NT E4 S4 B4 b5 e0 e1 e2 e3 e4 e5 s0 s1 s2 s3 hX
  have E6 := Lib.hid (e5'.alloc (.cells (enC path stage mode data st ss) 60))
  have S6 := Lib.hid (s5'.alloc (.cells (enC path stage mode data st ss) 60))
  have K6 := Lib.hid (Blk.new w5 60 (enC path stage mode data st ss))
  have B6 := Lib.hid (b5'.alloc b5'.size (.cells (enC path stage mode data st ss) 60))
  clear e5' s5' b5'
  have e0 := E6.out.cell 0
  have e1 := E6.out.cell 1
  have e2 := E6.out.cell 2
  have e3 := E6.out.cell 3
  have e4 := E6.out.cell 4
  have e5 := E6.out.cell 5
  have s0 := S6.out.cell 0
  have s1 := S6.out.cell 1
  have s2 := S6.out.cell 2
  have s3 := S6.out.cell 3
  have l7 := Blk.new (w5.alloc (.cells (enC path stage mode data st ss) 60)) 60 (enC path stage mode data time size)
  rw [show (w5.alloc (.cells (enC path stage mode data st ss) 60)).heap.size = w5.heap.size + 1 by simp] at l7
  have SM := Lib.hid (smudge_one _ _ path stage mode data time size written (reads_blk (c := 1) l7 (Nat.le_refl _) (by decide)))
  clear l7
  go_wp2_with fail
  refine SM.out.mono ?_
  rintro e w8 ⟨u, rfl, own, b8⟩
  rcases own.2 with ⟨_, e2⟩ | ⟨g, cap, cur, rfl, hB, hb, hn, hm, hs, ht⟩
  · simp at e2
  obtain ⟨gt, gs, hsm, hcase⟩ : ∃ gt gs, smE path stage mode data time size written = (path, stage, mode, data, gt, gs) ∧ ((written ≤ time ∧ 0 = gt ∧ 0 = gs) ∨ (time < written ∧ time = gt ∧ size = gs)) := by
    unfold smE
    by_cases hge : written ≤ time
    · exact ⟨0, 0, if_pos hge, Or.inl ⟨hge, rfl, rfl⟩⟩
    · exact ⟨time, size, if_neg hge, Or.inr ⟨by omega, rfl, rfl⟩⟩
  have L8 := Lib.hid (show Blk w8 g 60 cur from hb)
  rw [hsm] at own
  have QL := Lib.hid (show ∀ j, j < 6 → cur[j]? = (enC path stage mode data gt gs)[j]? from fun j hj => by
    rw [← L8.out.cell]
    have := own.cellAt j (by simpa [cE] using hj)
    rw [this]
    match j, hj with
    | 0, _ => rfl
    | 1, _ => rfl
    | 2, _ => rfl
    | 3, _ => rfl
    | 4, _ => rfl
    | 5, _ => rfl)
  have B7 := B6.out.alloc B6.out.size (.cells (enC path stage mode data time size) 60)
  have B8 := Lib.hid (B7.trans (b8.mono B7.size))
  have E8 := Lib.hid ((E6.out.alloc (.cells (enC path stage mode data time size) 60)).below b8 (E6.out.alloc (.cells (enC path stage mode data time size) 60)).lt)
  have S8 := Lib.hid ((S6.out.alloc (.cells (enC path stage mode data time size) 60)).below b8 (S6.out.alloc (.cells (enC path stage mode data time size) 60)).lt)
  have K8 := Lib.hid ((K6.out.alloc (.cells (enC path stage mode data time size) 60)).below b8 (K6.out.alloc (.cells (enC path stage mode data time size) 60)).lt)
  obtain ⟨Y, hY⟩ : ∃ Y, Y = w5.heap.size := ⟨_, rfl⟩
  rw [← hY] at K8 ⊢
  clear hY SM e0 e1 e2 e3 e4 e5 s0 s1 s2 s3 E6 S6 K6 B6 B7 own b8 hB hb hn hm hs ht hsm
  have e0 := E8.out.cell 0
  have e1 := E8.out.cell 1
  have e2 := E8.out.cell 2
  have e3 := E8.out.cell 3
  have e4 := E8.out.cell 4
  have e5 := E8.out.cell 5
  have s0 := S8.out.cell 0
  have s1 := S8.out.cell 1
  have s2 := S8.out.cell 2
  have s3 := S8.out.cell 3
  have xl := E8.out.lt
  have sl := S8.out.lt
  rcases hcase with ⟨hge, rfl, rfl⟩ | ⟨hge, rfl, rfl⟩
  · have hd : decide (written ≤ time) = true := decide_eq_true hge
    have HL := Lib.hid (show decide (time < written) = false from decide_eq_false (by omega))
    clear hge
    go_upto_region 15 with fail
    have HM := (Blk.new (w8.alloc (.cells (enC path stage mode data 0 0) 60)) 60 (enC path stage mode data st ss))
    rw [show (w8.alloc (.cells (enC path stage mode data 0 0) 60)).heap.size = w8.heap.size + 1 by simp] at HM
    have GM := (Blk.new w8 60 (enC path stage mode data 0 0)).alloc (.cells (enC path stage mode data st ss) 60)
    have EM := (E8.out.alloc (.cells (enC path stage mode data 0 0) 60)).alloc (.cells (enC path stage mode data st ss) 60)
    have SM := (S8.out.alloc (.cells (enC path stage mode data 0 0) 60)).alloc (.cells (enC path stage mode data st ss) 60)
    have KM := (K8.out.alloc (.cells (enC path stage mode data 0 0) 60)).alloc (.cells (enC path stage mode data st ss) 60)
    have LM := (L8.out.alloc (.cells (enC path stage mode data 0 0) 60)).alloc (.cells (enC path stage mode data st ss) 60)
    have BA := B8.out.alloc B8.out.size (.cells (enC path stage mode data 0 0) 60)
    have BM := BA.alloc BA.size (.cells (enC path stage mode data st ss) 60)
    obtain ⟨G, hG⟩ : ∃ G, G = w8.heap.size := ⟨_, rfl⟩
    obtain ⟨W, hW⟩ : ∃ W, W = (w8.alloc (.cells (enC path stage mode data 0 0) 60)).alloc (.cells (enC path stage mode data st ss) 60) := ⟨_, rfl⟩
    rw [← hW] at HM GM EM SM KM LM BM ⊢
    rw [← hG] at HM GM ⊢
    clear hG hW e0 e1 e2 e3 e4 e5 s0 s1 s2 s3 xl sl E8 S8 K8 L8 B8 BA
    have BW := Lib.hid BM
    have e0 := EM.cell 0
    have e1 := EM.cell 1
    have e2 := EM.cell 2
    have e3 := EM.cell 3
    have e4 := EM.cell 4
    have e5 := EM.cell 5
    have k0 := KM.cell 0
    have k1 := KM.cell 1
    have k2 := KM.cell 2
    have k3 := KM.cell 3
    have k4 := KM.cell 4
    have k5 := KM.cell 5
    have g0 := GM.cell 0
    have g1 := GM.cell 1
    have g2 := GM.cell 2
    have g3 := GM.cell 3
    have g4 := GM.cell 4
    have g5 := GM.cell 5
    have h0 := HM.cell 0
    have h1 := HM.cell 1
    have h2 := HM.cell 2
    have h3 := HM.cell 3
    have h4 := HM.cell 4
    have h5 := HM.cell 5
    have s0 := SM.cell 0
    have s1 := SM.cell 1
    have s2 := SM.cell 2
    have s3 := SM.cell 3
    have l0 := (LM.cell 0).trans (QL.out 0 (by decide))
    have l1 := (LM.cell 1).trans (QL.out 1 (by decide))
    have l2 := (LM.cell 2).trans (QL.out 2 (by decide))
    have l3 := (LM.cell 3).trans (QL.out 3 (by decide))
    have l4 := (LM.cell 4).trans (QL.out 4 (by decide))
    have l5 := (LM.cell 5).trans (QL.out 5 (by decide))
    clear EM KM GM HM SM LM BM QL
    have hl := HL.out
    clear hd
    cases q1 : (stage == 0) with
    | false =>
      obtain rfl : r = false := by rw [HR.out]; unfold freshB; rw [q1]; simp
      clear HR
      go_quiet (fail)
      go_wp2
      go_ret
      exact ⟨rfl, below_drewE BW.out _⟩
    | true =>
    cases q2 : (time == st) with
    | false =>
      obtain rfl : r = false := by rw [HR.out]; unfold freshB; rw [q2]; simp
      clear HR
      go_quiet (fail)
      go_wp2
      go_ret
      exact ⟨rfl, below_drewE BW.out _⟩
    | true =>
    cases q3 : (size == ss) with
    | false =>
      obtain rfl : r = false := by rw [HR.out]; unfold freshB; rw [q3]; simp
      clear HR
      go_quiet (fail)
      go_wp2
      go_ret
      exact ⟨rfl, below_drewE BW.out _⟩
    | true =>
    cases q4 : (mode == sm) with
    | false =>
      obtain rfl : r = false := by rw [HR.out]; unfold freshB; rw [q4]; simp
      clear HR
      go_quiet (fail)
      go_wp2
      go_ret
      exact ⟨rfl, below_drewE BW.out _⟩
    | true =>
    obtain rfl : r = false := by rw [HR.out]; unfold freshB; rw [q1, q2, q3, q4, hl]; rfl
    clear HR
    go_quiet (fail)
    go_wp2
    go_ret
    exact ⟨rfl, below_drewE BW.out _⟩
  · have hd : decide (written ≤ time) = false := decide_eq_false (by omega)
    have HL := Lib.hid (show decide (time < written) = true from decide_eq_true (by omega))
    clear hge
    go_upto_region 15 with fail
    have HM := (Blk.new (w8.alloc (.cells (enC path stage mode data time size) 60)) 60 (enC path stage mode data st ss))
    rw [show (w8.alloc (.cells (enC path stage mode data time size) 60)).heap.size = w8.heap.size + 1 by simp] at HM
    have GM := (Blk.new w8 60 (enC path stage mode data time size)).alloc (.cells (enC path stage mode data st ss) 60)
    have EM := (E8.out.alloc (.cells (enC path stage mode data time size) 60)).alloc (.cells (enC path stage mode data st ss) 60)
    have SM := (S8.out.alloc (.cells (enC path stage mode data time size) 60)).alloc (.cells (enC path stage mode data st ss) 60)
    have KM := (K8.out.alloc (.cells (enC path stage mode data time size) 60)).alloc (.cells (enC path stage mode data st ss) 60)
    have LM := (L8.out.alloc (.cells (enC path stage mode data time size) 60)).alloc (.cells (enC path stage mode data st ss) 60)
    have BA := B8.out.alloc B8.out.size (.cells (enC path stage mode data time size) 60)
    have BM := BA.alloc BA.size (.cells (enC path stage mode data st ss) 60)
    obtain ⟨G, hG⟩ : ∃ G, G = w8.heap.size := ⟨_, rfl⟩
    obtain ⟨W, hW⟩ : ∃ W, W = (w8.alloc (.cells (enC path stage mode data time size) 60)).alloc (.cells (enC path stage mode data st ss) 60) := ⟨_, rfl⟩
    rw [← hW] at HM GM EM SM KM LM BM ⊢
    rw [← hG] at HM GM ⊢
    clear hG hW e0 e1 e2 e3 e4 e5 s0 s1 s2 s3 xl sl E8 S8 K8 L8 B8 BA
    have BW := Lib.hid BM
    have e0 := EM.cell 0
    have e1 := EM.cell 1
    have e2 := EM.cell 2
    have e3 := EM.cell 3
    have e4 := EM.cell 4
    have e5 := EM.cell 5
    have k0 := KM.cell 0
    have k1 := KM.cell 1
    have k2 := KM.cell 2
    have k3 := KM.cell 3
    have k4 := KM.cell 4
    have k5 := KM.cell 5
    have g0 := GM.cell 0
    have g1 := GM.cell 1
    have g2 := GM.cell 2
    have g3 := GM.cell 3
    have g4 := GM.cell 4
    have g5 := GM.cell 5
    have h0 := HM.cell 0
    have h1 := HM.cell 1
    have h2 := HM.cell 2
    have h3 := HM.cell 3
    have h4 := HM.cell 4
    have h5 := HM.cell 5
    have s0 := SM.cell 0
    have s1 := SM.cell 1
    have s2 := SM.cell 2
    have s3 := SM.cell 3
    have l0 := (LM.cell 0).trans (QL.out 0 (by decide))
    have l1 := (LM.cell 1).trans (QL.out 1 (by decide))
    have l2 := (LM.cell 2).trans (QL.out 2 (by decide))
    have l3 := (LM.cell 3).trans (QL.out 3 (by decide))
    have l4 := (LM.cell 4).trans (QL.out 4 (by decide))
    have l5 := (LM.cell 5).trans (QL.out 5 (by decide))
    clear EM KM GM HM SM LM BM QL
    have hl := HL.out
    clear hd
    cases q1 : (stage == 0) with
    | false =>
      obtain rfl : r = false := by rw [HR.out]; unfold freshB; rw [q1]; simp
      clear HR
      go_quiet (fail)
      go_wp2
      go_ret
      exact ⟨rfl, below_drewE BW.out _⟩
    | true =>
    cases q2 : (time == st) with
    | false =>
      obtain rfl : r = false := by rw [HR.out]; unfold freshB; rw [q2]; simp
      clear HR
      go_quiet (fail)
      go_wp2
      go_ret
      exact ⟨rfl, below_drewE BW.out _⟩
    | true =>
    cases q3 : (size == ss) with
    | false =>
      obtain rfl : r = false := by rw [HR.out]; unfold freshB; rw [q3]; simp
      clear HR
      go_quiet (fail)
      go_wp2
      go_ret
      exact ⟨rfl, below_drewE BW.out _⟩
    | true =>
    cases q4 : (mode == sm) with
    | false =>
      obtain rfl : r = false := by rw [HR.out]; unfold freshB; rw [q4]; simp
      clear HR
      go_quiet (fail)
      go_wp2
      go_ret
      exact ⟨rfl, below_drewE BW.out _⟩
    | true =>
    obtain rfl : r = true := by rw [HR.out]; unfold freshB; rw [q1, q2, q3, q4, hl]; rfl
    clear HR
    go_quiet (fail)
    go_wp2
    go_ret
    exact ⟨rfl, below_drewE BW.out _⟩
theorem statFresh_law (w : World) (path : ByteArray) (stage mode : Int) (data : ByteArray) (time size ss st si sm written : Int) :
    Calls Tryd.prog 7 #[.agg #[.string path, .int .i64 stage, .int .i64 mode, .string data, .int .i64 time, .int .i64 size], .agg #[.int .i64 ss, .int .i64 st, .int .i64 si, .int .i64 sm], .int .i64 written] w fun e w' => e = .returned (.bool true) ∧ Below w.heap.size w w' :=
  statFresh_any w path data stage mode time size ss st si sm written
end Go.Proofs.YtcnmlgmlijgmhaaDoor
