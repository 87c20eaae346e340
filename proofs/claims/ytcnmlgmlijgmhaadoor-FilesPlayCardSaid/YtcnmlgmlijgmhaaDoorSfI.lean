/-
  The known case of stage 18.
-/
import Derived.Test.YtcnmlgmlijgmhaaDoorSfH
import Derived.Lib.SlBytesConst
namespace Go.Proofs.YtcnmlgmlijgmhaaDoor
open Go Go.RowKit Go.Maps

/-- The cells of one entry. -/
abbrev enC (path : ByteArray) (stage mode : Int) (data : ByteArray) (time size : Int) : Array Value := #[.string path, .int .i64 stage, .int .i64 mode, .string data, .int .i64 time, .int .i64 size]
theorem reads_blk {w : World} {g c : Nat} {path : ByteArray} {stage mode : Int} {data : ByteArray} {time size : Int} (h : Blk w g 60 (enC path stage mode data time size)) (h1 : 1 ≤ c) (h2 : c ≤ maxLen) :
    Reads 6 cE w (.slice (some ⟨g, 0, none⟩) 1 c) [(path, stage, mode, data, time, size)] := by
  refine ⟨_, c, rfl, h1, h2, by simp, fun ad hA i x hx j u hu => ?_⟩
  obtain rfl := Option.some.inj hA
  have hi : i = 0 := by
    have := (List.getElem?_eq_some_iff.1 hx).1
    simp at this
    exact this
  subst hi
  obtain rfl : (path, stage, mode, data, time, size) = x := by simpa using hx
  have hc : ∀ j, w.cell? (adr ⟨g, 0, none⟩ 0 6 j) = (enC path stage mode data time size)[j]? := fun j => by
    cases j with
    | zero => unfold adr; rw [add_zero_addr]; exact h.cell 0
    | succ j => unfold adr; rw [add_zero_addr]; simpa using h.cell (j + 1)
  rw [hc]
  simpa [cE, enC] using hu

set_option maxRecDepth 100000 in
set_option maxHeartbeats 2000000 in
/-- A new file system lies in blocks of the call's own. -/
theorem new_own (w : World) (q : Int) : Calls Tryd.prog 11 #[.int .i64 q] w fun e w' => ∃ F bf bs, e = .returned (.pointer (some ⟨F, 0, none⟩)) ∧ FsIs w' F bf bs 0 [] [] (.slice none 0 0) q 0 0 0 false 0 (.slice none 0 0) ∧ Below w.heap.size w w' ∧ w.heap.size ≤ F ∧ w.heap.size ≤ bf ∧ w.heap.size ≤ bs := by
  have hmm := @run_makeMap Tryd.prog
  have d1 := (Below.refl w.heap.size w).alloc (Nat.le_refl _) (.map #[] 0)
  have d2 := d1.alloc d1.size (.map #[] 0)
  have d3 := d2.alloc d2.size (.cells #[.map (some w.heap.size), .map (some (w.heap.size + 1)), .slice none 0 0, .int .i64 q, .int .i64 0, .int .i64 0, .int .i64 0, .bool false, .int .i64 0, .slice none 0 0] 74)
  have H3 := Lib.hid d3
  clear d1 d2 d3
  go_enter Tryd.func11, Tryd.ntmps11
  go_wp2
  go_ret
  refine ⟨w.heap.size + 1 + 1, w.heap.size, w.heap.size + 1, by first | rfl | simp, ⟨?_, ?_, ?_, ?_⟩, H3.out, by omega, by omega, by omega⟩
  · simpa using Blk.new ((w.alloc (.map #[] 0)).alloc (.map #[] 0)) 74 _
  · exact ((TreeIs.made w).alloc _).alloc _
  · simpa using (TreeIs.made (w.alloc (.map #[] 0))).alloc _
  · simp

set_option maxRecDepth 100000 in
set_option maxHeartbeats 8000000 in
theorem known18_any (w : World) : Calls Tryd.prog 28 #[] w fun e w' => e = .returned (.bool true) ∧ Below w.heap.size w w' := by
  have nt := note_any w ⟨#[97]⟩ ⟨#[120]⟩ 0 1 0 0 1 3 0 1
  simp only [enV, stV] at nt
  have NT := Lib.hid nt
  have CV := Lib.hid (fun W => Lib.run_convert_bytes_const (P := Tryd.prog) W 32 5 #[.int .u8 121] 1 1 Tryd.underlying32 Tryd.underlying5)
  clear nt
  go_enter Tryd.func28, Tryd.ntmps28
  go_wp2_with fail
  refine NT.out.mono ?_
  rintro e w1 ⟨rfl, b1⟩
  have B1 := Lib.hid b1
  clear NT b1
  have K1 := Lib.hid (Blk.new w1 60 (enC ⟨#[97]⟩ 0 1 ⟨#[120]⟩ 3 1))
  have s1 := (Blk.new w1 60 (enC ⟨#[97]⟩ 0 1 ⟨#[120]⟩ 3 1)).alloc (.cells (enC ⟨#[97]⟩ 0 1 ⟨#[120]⟩ 3 1) 60)
  have K2 := Lib.hid s1
  have s2 := Blk.new (w1.alloc (.cells (enC ⟨#[97]⟩ 0 1 ⟨#[120]⟩ 3 1) 60)) 60 (enC ⟨#[97]⟩ 0 1 ⟨#[120]⟩ 3 1)
  rw [show (w1.alloc (.cells (enC ⟨#[97]⟩ 0 1 ⟨#[120]⟩ 3 1) 60)).heap.size = w1.heap.size + 1 by simp] at s2
  have SM := Lib.hid (smudge_one _ _ ⟨#[97]⟩ 0 1 ⟨#[120]⟩ 3 1 3 (reads_blk (c := 1) s2 (Nat.le_refl _) (by decide)))
  clear s1 s2 K1
  go_wp2_with fail
  refine SM.out.mono ?_
  rintro e w2 ⟨u, rfl, own, b2⟩
  clear SM
  rcases own.2 with ⟨_, e2⟩ | ⟨g, cap, cur, rfl, hB, hb, hn, hm, hs, ht⟩
  · simp at e2
  have S2 : Blk w2 g 60 cur := hb
  have q4 : w2.cell? ⟨g, 4, none⟩ = some (.int .i64 0) := own.cellAt 4 (by decide)
  rw [S2.cell] at q4
  have Q4 := Lib.hid q4
  have K3 := Lib.hid (K2.out.below b2 (by simp; omega))
  have HS2 := Lib.hid S2
  have D1 := B1.out.alloc B1.out.size (.cells (enC ⟨#[97]⟩ 0 1 ⟨#[120]⟩ 3 1) 60)
  have D2 := D1.alloc D1.size (.cells (enC ⟨#[97]⟩ 0 1 ⟨#[120]⟩ 3 1) 60)
  have B2 := Lib.hid (D2.trans (b2.mono D2.size))
  clear B1 D1 D2 own b2 hB hb hn hm hs ht S2 q4 K2
  have NW := Lib.hid (new_own w2 0)
  go_wp2_with fail
  refine NW.out.mono ?_
  rintro e w3 ⟨F, bf, bs, rfl, FS3, b3, hF, hbf, _⟩
  have K4 := Lib.hid (K3.out.below b3 K3.out.lt)
  have S4 := Lib.hid (HS2.out.below b3 HS2.out.lt)
  have HFS := Lib.hid FS3
  have B3 := Lib.hid (B2.out.trans (b3.mono B2.out.size))
  have HFB := Lib.hid (And.intro (Nat.le_trans B2.out.size hF) (Nat.le_trans B2.out.size hbf))
  clear hF hbf B2 NW b3 K3 HS2 FS3
  have cv := CV.out
  have f4 := HFS.out.below ((Below.refl w3.heap.size w3).alloc (Nat.le_refl _) (.cells #[.int .u8 121] 5 (1, 2)))
  have y4 : (w3.alloc (.cells #[.int .u8 121] 5 (1, 2))).heap[w3.heap.size]? = some (.cells #[.int .u8 121] 5 (1, 2)) := heap_alloc_new ..
  have ed := edit_any f4 ⟨#[97]⟩ 1 (.slice (some ⟨w3.heap.size, 0, none⟩) 1 1) ⟨#[121]⟩ (by decide) (by simp) (fun w' hb => ⟨⟨_, _, rfl⟩, fun w'' hg => by
      have z : w''.heap[w3.heap.size]? = some (.cells #[.int .u8 121] 5 (1, 2)) := (hg.block _ (by have := hb.size; simp at this; omega) (fun e => by have := HFS.out.x.lt; have := Option.some.inj e; omega)).trans ((hb.block _ (by simp)).trans y4)
      exact run_convert_bytes_back (P := Tryd.prog) w'' 32 9 5 ⟨w3.heap.size, 0, none⟩ 1 [121] Tryd.underlying32 Tryd.underlying5 Tryd.underlying9 (fun j hj => by
        have hj0 : j = 0 := by simpa using hj
        subst hj0
        rw [add_zero_addr, cell_of_row w'' _ 0 _ 5 _ z]
        rfl)⟩) (by decide) (Or.inl rfl) (by decide) rfl (by omega) (by omega) (by omega)
  have ED := Lib.hid ed
  have K5 := Lib.hid (K4.out.alloc (.cells #[.int .u8 121] 5 (1, 2)))
  have S5 := Lib.hid (S4.out.alloc (.cells #[.int .u8 121] 5 (1, 2)))
  have F5 := Lib.hid f4
  clear f4 y4 ed K4 S4
  go_wp2_with fail
  refine ED.out.mono ?_
  rintro e w5 ⟨bs', rfl, FS6, kp⟩
  have K6 := Lib.hid (show Blk w5 w1.heap.size 60 _ from (kp.block _ K5.out.lt (K5.out.ne_ F5.out.x (by decide)) (blk_tree_ne K5.out F5.out.f)).trans K5.out)
  have S6 := Lib.hid (show Blk w5 g 60 cur from (kp.block _ S5.out.lt (S5.out.ne_ F5.out.x (by decide)) (blk_tree_ne S5.out F5.out.f)).trans S5.out)
  have d7 := (Below.refl w5.heap.size w5).alloc (Nat.le_refl _) (.cells (enC ⟨#[97]⟩ 0 1 ⟨#[120]⟩ 0 0) 60)
  have CH := Lib.hid (changed_one (FS6.below d7) w5.heap.size 1 ⟨#[97]⟩ ⟨#[120]⟩ 1 0 0 5 (Blk.new w5 60 (enC ⟨#[97]⟩ 0 1 ⟨#[120]⟩ 0 0)) (by decide) (ft := 0) (fi := inoOf [] ⟨#[97]⟩ 0) (fd := ⟨#[121]⟩) (by rfl) (by decide) (by kernel_rfl))
  have D7 := Lib.hid d7
  have D4 := B3.out.alloc B3.out.size (.cells #[.int .u8 121] 5 (1, 2))
  have B5 := Lib.hid (D4.trans (kp.below HFB.out.1 HFB.out.2 D4.size))
  clear D4 B3 HFB ED kp FS6 K5 S5 F5 d7 HFS CV cv
  go_wp2_with fail
  refine CH.out.mono ?_
  rintro e w7 ⟨A, m, cc, rfl, rfl, b7⟩
  have b7' := D7.out.trans (b7.mono D7.out.size)
  have K7 := Lib.hid (K6.out.below b7' K6.out.lt)
  have S7 := Lib.hid (S6.out.below b7' S6.out.lt)
  have B7 := Lib.hid (B5.out.trans (b7'.mono B5.out.size))
  clear B5 CH b7 b7' K6 S6 D7
  have k4 := K7.out.cell 4
  have k5 := K7.out.cell 5
  have k0 := K7.out.cell 0
  have k1 := K7.out.cell 1
  have k2 := K7.out.cell 2
  have k3 := K7.out.cell 3
  have fa := fun W => fresh29_any W ⟨#[97]⟩ ⟨#[120]⟩ 0 1 3 1 1 3 0 1 4
  have fb := fun W => fresh29_any W ⟨#[97]⟩ ⟨#[120]⟩ 0 1 3 1 1 3 0 1 3
  simp only [enV, stV, show freshB 0 1 3 1 1 3 1 4 = true from by decide] at fa
  simp only [enV, stV, show freshB 0 1 3 1 1 3 1 3 = false from by decide] at fb
  have FA := Lib.hid fa
  have FB := Lib.hid fb
  clear fa fb
  go_wp2_with (first
    | (go_at_call 29
       refine (FA.out _).mono ?_
       rintro e w8 ⟨rfl, b8⟩
       have K8 := Lib.hid (K7.out.below b8 K7.out.lt)
       have S8 := Lib.hid (S7.out.below b8 S7.out.lt)
       have B8 := Lib.hid (B7.out.trans (b8.mono B7.out.size))
       clear B7 FA b8 k0 k1 k2 k3 k4 k5 K7 S7
       have k0 := K8.out.cell 0
       have k1 := K8.out.cell 1
       have k2 := K8.out.cell 2
       have k3 := K8.out.cell 3
       have k4 := K8.out.cell 4
       have k5 := K8.out.cell 5)
    | (go_at_call 29
       refine (FB.out _).mono ?_
       rintro e w9 ⟨rfl, b9⟩
       have s4 : w9.cell? ⟨g, 4, none⟩ = some (.int .i64 0) := ((S8.out.below b9 S8.out.lt).cell 4).trans Q4.out
       have B9 := Lib.hid (B8.out.trans (b9.mono B8.out.size))
       clear B8 FB b9 k0 k1 k2 k3 k4 k5 K8 S8 Q4))
  go_ret
  exact ⟨rfl, B9.out⟩
end Go.Proofs.YtcnmlgmlijgmhaaDoor
