/-
  sha: rows of names that are built; a text too short.
-/
import Derived.Test.YtpkikibcfkdodaaHParse
namespace Go.Proofs.Ytpkikibcfkdodaa
open Go Go.RowKit
theorem ex32 (cs : List Value) (h : cs.length = 32) : ∃ a0 a1 a2 a3 a4 a5 a6 a7 a8 a9 a10 a11 a12 a13 a14 a15 a16 a17 a18 a19 a20 a21 a22 a23 a24 a25 a26 a27 a28 a29 a30 a31 : Value, cs = [a0, a1, a2, a3, a4, a5, a6, a7, a8, a9, a10, a11, a12, a13, a14, a15, a16, a17, a18, a19, a20, a21, a22, a23, a24, a25, a26, a27, a28, a29, a30, a31] := by
  rcases cs with _ | ⟨a0, cs⟩
  · simp at h
  rcases cs with _ | ⟨a1, cs⟩
  · simp at h
  rcases cs with _ | ⟨a2, cs⟩
  · simp at h
  rcases cs with _ | ⟨a3, cs⟩
  · simp at h
  rcases cs with _ | ⟨a4, cs⟩
  · simp at h
  rcases cs with _ | ⟨a5, cs⟩
  · simp at h
  rcases cs with _ | ⟨a6, cs⟩
  · simp at h
  rcases cs with _ | ⟨a7, cs⟩
  · simp at h
  rcases cs with _ | ⟨a8, cs⟩
  · simp at h
  rcases cs with _ | ⟨a9, cs⟩
  · simp at h
  rcases cs with _ | ⟨a10, cs⟩
  · simp at h
  rcases cs with _ | ⟨a11, cs⟩
  · simp at h
  rcases cs with _ | ⟨a12, cs⟩
  · simp at h
  rcases cs with _ | ⟨a13, cs⟩
  · simp at h
  rcases cs with _ | ⟨a14, cs⟩
  · simp at h
  rcases cs with _ | ⟨a15, cs⟩
  · simp at h
  rcases cs with _ | ⟨a16, cs⟩
  · simp at h
  rcases cs with _ | ⟨a17, cs⟩
  · simp at h
  rcases cs with _ | ⟨a18, cs⟩
  · simp at h
  rcases cs with _ | ⟨a19, cs⟩
  · simp at h
  rcases cs with _ | ⟨a20, cs⟩
  · simp at h
  rcases cs with _ | ⟨a21, cs⟩
  · simp at h
  rcases cs with _ | ⟨a22, cs⟩
  · simp at h
  rcases cs with _ | ⟨a23, cs⟩
  · simp at h
  rcases cs with _ | ⟨a24, cs⟩
  · simp at h
  rcases cs with _ | ⟨a25, cs⟩
  · simp at h
  rcases cs with _ | ⟨a26, cs⟩
  · simp at h
  rcases cs with _ | ⟨a27, cs⟩
  · simp at h
  rcases cs with _ | ⟨a28, cs⟩
  · simp at h
  rcases cs with _ | ⟨a29, cs⟩
  · simp at h
  rcases cs with _ | ⟨a30, cs⟩
  · simp at h
  rcases cs with _ | ⟨a31, cs⟩
  · simp at h
  rcases cs with _ | ⟨a, cs⟩
  · exact ⟨a0, a1, a2, a3, a4, a5, a6, a7, a8, a9, a10, a11, a12, a13, a14, a15, a16, a17, a18, a19, a20, a21, a22, a23, a24, a25, a26, a27, a28, a29, a30, a31, rfl⟩
  · simp at h
set_option maxRecDepth 100000 in
theorem bs1_36 (W : World) (cs : List Value) (h : cs.length = 32) : (Instr.buildSlice 36 1 #[(0, .agg cs.toArray)]).run Try.prog W = .ok (.slice (some ⟨W.heap.size, 0, none⟩) 1 1) (W.alloc (.cells cs.toArray 25)) := by
  obtain ⟨a0, a1, a2, a3, a4, a5, a6, a7, a8, a9, a10, a11, a12, a13, a14, a15, a16, a17, a18, a19, a20, a21, a22, a23, a24, a25, a26, a27, a28, a29, a30, a31, rfl⟩ := ex32 cs h
  kernel_rfl
set_option maxRecDepth 100000 in
theorem bs1_37 (W : World) (cs : List Value) (h : cs.length = 32) : (Instr.buildSlice 37 1 #[(0, .agg cs.toArray)]).run Try.prog W = .ok (.slice (some ⟨W.heap.size, 0, none⟩) 1 1) (W.alloc (.cells cs.toArray 32)) := by
  obtain ⟨a0, a1, a2, a3, a4, a5, a6, a7, a8, a9, a10, a11, a12, a13, a14, a15, a16, a17, a18, a19, a20, a21, a22, a23, a24, a25, a26, a27, a28, a29, a30, a31, rfl⟩ := ex32 cs h
  kernel_rfl
set_option maxRecDepth 100000 in
theorem bs2_36 (W : World) (cs ds : List Value) (h : cs.length = 32) (h2 : ds.length = 32) : (Instr.buildSlice 36 2 #[(0, .agg cs.toArray), (1, .agg ds.toArray)]).run Try.prog W = .ok (.slice (some ⟨W.heap.size, 0, none⟩) 2 2) (W.alloc (.cells (cs ++ ds).toArray 25)) := by
  obtain ⟨a0, a1, a2, a3, a4, a5, a6, a7, a8, a9, a10, a11, a12, a13, a14, a15, a16, a17, a18, a19, a20, a21, a22, a23, a24, a25, a26, a27, a28, a29, a30, a31, rfl⟩ := ex32 cs h
  obtain ⟨b0, b1, b2, b3, b4, b5, b6, b7, b8, b9, b10, b11, b12, b13, b14, b15, b16, b17, b18, b19, b20, b21, b22, b23, b24, b25, b26, b27, b28, b29, b30, b31, rfl⟩ := ex32 ds h2
  kernel_rfl
theorem bs_abc (W : World) : (Instr.buildSlice 22 3 #[(0, .int .u8 97), (1, .int .u8 98), (2, .int .u8 99)]).run Try.prog W = .ok (.slice (some ⟨W.heap.size, 0, none⟩) 3 3) (W.alloc (.cells #[.int .u8 97, .int .u8 98, .int .u8 99] 5)) := by kernel_rfl
attribute [-go_sem] loadCells storeCells run_index_string
theorem st_row {w : World} {R : Nat} {old : Array Value} {m : List Value} (h : Blk w R 25 old) (hs : old.size = 32) (hm : m.length = 32) (h1 : m.toArray.all (·.oneCell') = true) : (storeCells ⟨R, 0, none⟩ m 0).run Try.prog w = .ok () (w.setRow R m.toArray) := by
  have h := run_storeVar_row (P := Try.prog) w R 25 25 old m.toArray h (by rw [List.size_toArray, hm]; kernel_rfl) (by simpa [hm] using hs) h1
  have h0 : (Try.prog.info? 25).map (·.size) = some 32 := by kernel_rfl
  cases hq : Try.prog.info? 25 with
  | none => simp [hq] at h0
  | some i0 =>
    have hs : i0.size = 32 := by simp [hq] at h0; omega
    simpa [storeVar, sizeOf, typeInfo, hq, Value.cells, hs, hm] using h
set_option maxRecDepth 100000 in
set_option maxHeartbeats 4000000 in
theorem parse_ab (w : World) : Calls Try.prog 9 #[.string ⟨#[97, 98]⟩] w fun e w' => ∃ v, e = .returned (.tuple #[.agg (Array.replicate 32 (.int .u8 0)), .iface 85 v]) ∧ Below w.heap.size w w' := by
  go_enter Try.func9, Try.ntmps9
  have R0 : Blk (w.alloc (.cells #[.int .u8 0, .int .u8 0, .int .u8 0, .int .u8 0, .int .u8 0, .int .u8 0, .int .u8 0, .int .u8 0, .int .u8 0, .int .u8 0, .int .u8 0, .int .u8 0, .int .u8 0, .int .u8 0, .int .u8 0, .int .u8 0, .int .u8 0, .int .u8 0, .int .u8 0, .int .u8 0, .int .u8 0, .int .u8 0, .int .u8 0, .int .u8 0, .int .u8 0, .int .u8 0, .int .u8 0, .int .u8 0, .int .u8 0, .int .u8 0, .int .u8 0, .int .u8 0] 25)) w.heap.size 25 #[.int .u8 0, .int .u8 0, .int .u8 0, .int .u8 0, .int .u8 0, .int .u8 0, .int .u8 0, .int .u8 0, .int .u8 0, .int .u8 0, .int .u8 0, .int .u8 0, .int .u8 0, .int .u8 0, .int .u8 0, .int .u8 0, .int .u8 0, .int .u8 0, .int .u8 0, .int .u8 0, .int .u8 0, .int .u8 0, .int .u8 0, .int .u8 0, .int .u8 0, .int .u8 0, .int .u8 0, .int .u8 0, .int .u8 0, .int .u8 0, .int .u8 0, .int .u8 0] := Blk.new w 25 _
  have B0 := (Below.refl w.heap.size w).alloc (Nat.le_refl _) (.cells #[.int .u8 0, .int .u8 0, .int .u8 0, .int .u8 0, .int .u8 0, .int .u8 0, .int .u8 0, .int .u8 0, .int .u8 0, .int .u8 0, .int .u8 0, .int .u8 0, .int .u8 0, .int .u8 0, .int .u8 0, .int .u8 0, .int .u8 0, .int .u8 0, .int .u8 0, .int .u8 0, .int .u8 0, .int .u8 0, .int .u8 0, .int .u8 0, .int .u8 0, .int .u8 0, .int .u8 0, .int .u8 0, .int .u8 0, .int .u8 0, .int .u8 0, .int .u8 0] 25)
  go_upto_region 2 with fail
  obtain ⟨R, hR⟩ : ∃ I, I = w.heap.size := ⟨_, rfl⟩
  obtain ⟨W, hW⟩ : ∃ W, W = w.alloc (.cells #[.int .u8 0, .int .u8 0, .int .u8 0, .int .u8 0, .int .u8 0, .int .u8 0, .int .u8 0, .int .u8 0, .int .u8 0, .int .u8 0, .int .u8 0, .int .u8 0, .int .u8 0, .int .u8 0, .int .u8 0, .int .u8 0, .int .u8 0, .int .u8 0, .int .u8 0, .int .u8 0, .int .u8 0, .int .u8 0, .int .u8 0, .int .u8 0, .int .u8 0, .int .u8 0, .int .u8 0, .int .u8 0, .int .u8 0, .int .u8 0, .int .u8 0, .int .u8 0] 25) := ⟨_, rfl⟩
  rw [← hR, ← hW] at R0
  rw [← hW] at B0
  rw [← hW, ← hR]
  have R1 := Lib.hid R0
  have B1 := Lib.hid B0
  have HR : Hid (w.heap.size ≤ R) := Lib.hid (by omega)
  clear hR hW R0 B0
  go_wp2_with (go_at_call 32; refine (fault_any _ _ _).mono ?_; rintro e w3 ⟨v, rfl, hb3⟩; have hR3 := R1.out.below hb3 R1.out.lt; obtain ⟨w5, hw5⟩ : ∃ w5, w5 = w3.setRow R #[.int .u8 0, .int .u8 0, .int .u8 0, .int .u8 0, .int .u8 0, .int .u8 0, .int .u8 0, .int .u8 0, .int .u8 0, .int .u8 0, .int .u8 0, .int .u8 0, .int .u8 0, .int .u8 0, .int .u8 0, .int .u8 0, .int .u8 0, .int .u8 0, .int .u8 0, .int .u8 0, .int .u8 0, .int .u8 0, .int .u8 0, .int .u8 0, .int .u8 0, .int .u8 0, .int .u8 0, .int .u8 0, .int .u8 0, .int .u8 0, .int .u8 0, .int .u8 0] := ⟨_, rfl⟩; have hst := st_row (m := [.int .u8 0, .int .u8 0, .int .u8 0, .int .u8 0, .int .u8 0, .int .u8 0, .int .u8 0, .int .u8 0, .int .u8 0, .int .u8 0, .int .u8 0, .int .u8 0, .int .u8 0, .int .u8 0, .int .u8 0, .int .u8 0, .int .u8 0, .int .u8 0, .int .u8 0, .int .u8 0, .int .u8 0, .int .u8 0, .int .u8 0, .int .u8 0, .int .u8 0, .int .u8 0, .int .u8 0, .int .u8 0, .int .u8 0, .int .u8 0, .int .u8 0, .int .u8 0]) hR3 rfl rfl (by kernel_rfl); rw [← hw5] at hst; have HW5 := Lib.hid hw5; have HB3 := Lib.hid hb3; have HR3 := Lib.hid hR3; clear hw5 hb3 hR3)

  have h5 : Blk w5 R 25 #[.int .u8 0, .int .u8 0, .int .u8 0, .int .u8 0, .int .u8 0, .int .u8 0, .int .u8 0, .int .u8 0, .int .u8 0, .int .u8 0, .int .u8 0, .int .u8 0, .int .u8 0, .int .u8 0, .int .u8 0, .int .u8 0, .int .u8 0, .int .u8 0, .int .u8 0, .int .u8 0, .int .u8 0, .int .u8 0, .int .u8 0, .int .u8 0, .int .u8 0, .int .u8 0, .int .u8 0, .int .u8 0, .int .u8 0, .int .u8 0, .int .u8 0, .int .u8 0] := by rw [HW5.out]; exact setRow_heap w3 R _ _ 25 _ HR3.out
  have hB : Below w.heap.size w w5 := by rw [HW5.out]; exact below_setRow (B1.out.trans (HB3.out.mono B1.out.size)) HR.out _
  have hl5 : (loadCells ⟨R, 0, none⟩ 32).run Try.prog w5 = .ok #[.int .u8 0, .int .u8 0, .int .u8 0, .int .u8 0, .int .u8 0, .int .u8 0, .int .u8 0, .int .u8 0, .int .u8 0, .int .u8 0, .int .u8 0, .int .u8 0, .int .u8 0, .int .u8 0, .int .u8 0, .int .u8 0, .int .u8 0, .int .u8 0, .int .u8 0, .int .u8 0, .int .u8 0, .int .u8 0, .int .u8 0, .int .u8 0, .int .u8 0, .int .u8 0, .int .u8 0, .int .u8 0, .int .u8 0, .int .u8 0, .int .u8 0, .int .u8 0] w5 := ld_blk h5 rfl
  refine bodyPost_ret (v := .tuple #[.agg #[.int .u8 0, .int .u8 0, .int .u8 0, .int .u8 0, .int .u8 0, .int .u8 0, .int .u8 0, .int .u8 0, .int .u8 0, .int .u8 0, .int .u8 0, .int .u8 0, .int .u8 0, .int .u8 0, .int .u8 0, .int .u8 0, .int .u8 0, .int .u8 0, .int .u8 0, .int .u8 0, .int .u8 0, .int .u8 0, .int .u8 0, .int .u8 0, .int .u8 0, .int .u8 0, .int .u8 0, .int .u8 0, .int .u8 0, .int .u8 0, .int .u8 0, .int .u8 0], .iface 85 v]) (by have a5 := Try.isAgg25; have z5 := Try.sizeOf25; simp [results, Try.results9, go_sem, loadVar, hl5, a5, z5]) rfl ⟨v, rfl, hB⟩
#print axioms parse_ab
end Go.Proofs.Ytpkikibcfkdodaa
