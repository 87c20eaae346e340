/-
  known: the name of three letters.
-/
import Derived.Test.YtpkikibcfkdodaaHKnow
import Derived.Lib.SlBytesConst
namespace Go.Proofs.Ytpkikibcfkdodaa
open Go Go.RowKit
attribute [-go_sem] loadCells storeCells run_index_string Instr.buildSlice
def abcB : List UInt8 := [97, 98, 99]
def abcI : List UInt8 := [186, 120, 22, 191, 143, 1, 207, 234, 65, 65, 64, 222, 93, 174, 34, 35, 176, 3, 97, 163, 150, 23, 122, 156, 180, 16, 255, 97, 242, 0, 21, 173]
theorem abc_sum : sumF abcB = abcI := abc
theorem abc_hex : hexS abcI = ⟨#[98, 97, 55, 56, 49, 54, 98, 102, 56, 102, 48, 49, 99, 102, 101, 97, 52, 49, 52, 49, 52, 48, 100, 101, 53, 100, 97, 101, 50, 50, 50, 51, 98, 48, 48, 51, 54, 49, 97, 51, 57, 54, 49, 55, 55, 97, 57, 99, 98, 52, 49, 48, 102, 102, 54, 49, 102, 50, 48, 48, 49, 53, 97, 100]⟩ := by decide +kernel
/-- What stands while known is asked: the name thrice. -/
theorem st_new (W : World) (m : List Value) (hm : m.length = 32) (h1 : m.toArray.all (·.oneCell') = true) : (storeCells ⟨W.heap.size, 0, none⟩ m 0).run Try.prog (W.alloc (.cells #[.int .u8 0, .int .u8 0, .int .u8 0, .int .u8 0, .int .u8 0, .int .u8 0, .int .u8 0, .int .u8 0, .int .u8 0, .int .u8 0, .int .u8 0, .int .u8 0, .int .u8 0, .int .u8 0, .int .u8 0, .int .u8 0, .int .u8 0, .int .u8 0, .int .u8 0, .int .u8 0, .int .u8 0, .int .u8 0, .int .u8 0, .int .u8 0, .int .u8 0, .int .u8 0, .int .u8 0, .int .u8 0, .int .u8 0, .int .u8 0, .int .u8 0, .int .u8 0] 25)) = .ok () (W.alloc (.cells m.toArray 25)) := by
  have h := run_storeCells_new (P := Try.prog) W 25 #[.int .u8 0, .int .u8 0, .int .u8 0, .int .u8 0, .int .u8 0, .int .u8 0, .int .u8 0, .int .u8 0, .int .u8 0, .int .u8 0, .int .u8 0, .int .u8 0, .int .u8 0, .int .u8 0, .int .u8 0, .int .u8 0, .int .u8 0, .int .u8 0, .int .u8 0, .int .u8 0, .int .u8 0, .int .u8 0, .int .u8 0, .int .u8 0, .int .u8 0, .int .u8 0, .int .u8 0, .int .u8 0, .int .u8 0, .int .u8 0, .int .u8 0, .int .u8 0] m.toArray (by rw [List.size_toArray, hm]; kernel_rfl) (by simp [hm]) h1
  simpa using h
set_option maxRecDepth 100000 in
set_option maxHeartbeats 8000000 in
theorem known_any (w : World) : Calls Try.prog 7 #[] w fun e w' => e = .returned (.bool true) ∧ Below w.heap.size w w' := by
  have hbs := bs_abc
  have hcv : ∀ (W : World), (convert 22 22 (.slice (some ⟨W.heap.size, 0, none⟩) 3 3)).run Try.prog (W.alloc (.cells #[.int .u8 97, .int .u8 98, .int .u8 99] 5)) = .ok (.slice (some ⟨W.heap.size, 0, none⟩) 3 3) (W.alloc (.cells #[.int .u8 97, .int .u8 98, .int .u8 99] 5 (3, 4))) := fun W => Lib.run_convert_bytes_const W 22 5 _ 3 3 Try.underlying22 Try.underlying5
  obtain ⟨cm, hcm⟩ : ∃ cm, cm = bc abcI := ⟨_, rfl⟩
  have hcl : cm.length = 32 := by rw [hcm]; rfl
  have hone : cm.toArray.all (·.oneCell') = true := by rw [hcm]; kernel_rfl
  have hst := fun W => st_new W cm hcl hone
  have SUM : Hid (∀ W : World, Calls Try.prog 8 #[.slice (some ⟨W.heap.size, 0, none⟩) 3 3] (W.alloc (.cells #[.int .u8 97, .int .u8 98, .int .u8 99] 5 (3, 4))) fun e w' => e = .returned (.agg cm.toArray) ∧ Below W.heap.size W w') := Lib.hid (fun W => by
    have h := sum_any (W.alloc (.cells #[.int .u8 97, .int .u8 98, .int .u8 99] 5 (3, 4))) (some ⟨W.heap.size, 0, none⟩) abcB 3 (by decide) (by decide) (fun _ => ⟨W.heap.size, 0, rfl, fun j b hj => by
      have e : (#[.int .u8 97, .int .u8 98, .int .u8 99] : Array Value) = (bc abcB).toArray := by rfl
      rw [cell_of_row _ W.heap.size (0 + j) _ 5 (3, 4) (heap_alloc_new W _), Nat.zero_add, e, List.getElem?_toArray]
      exact bc_at hj⟩)
    rw [abc_sum, ← hcm] at h
    exact h.mono (fun e w' ⟨h1, h2⟩ => ⟨h1, ((Below.refl W.heap.size W).alloc (Nat.le_refl _) _).trans (h2.mono (by simp))⟩))
  have HCM := Lib.hid hcm
  have HCL := Lib.hid hcl
  clear hcm hcl hone
  go_enter Try.func7, Try.ntmps7
  go_upto_region 2 with (go_at_call 8; refine (SUM.out _).mono ?_; rintro e w1 ⟨rfl, hb1⟩)
  have hX := Blk.new w1 25 cm.toArray
  have hB := hb1.alloc hb1.size (.cells cm.toArray 25)
  obtain ⟨X, hXX⟩ : ∃ X, X = w1.heap.size := ⟨_, rfl⟩
  obtain ⟨W1, hW1⟩ : ∃ W, W = w1.alloc (.cells cm.toArray 25) := ⟨_, rfl⟩
  rw [← hXX, ← hW1] at hX
  rw [← hW1] at hB
  rw [← hXX, ← hW1]
  have hcz : cm.toArray.size = 32 := by simpa using HCL.out
  have STR : Hid (∀ W : World, Calls Try.prog 10 #[.agg cm.toArray] W fun e w' => e = .returned (.string (hexS abcI)) ∧ Below W.heap.size W w') := Lib.hid (by rw [HCM.out]; exact fun W => string_any W abcI rfl)
  have PAR : Hid (∀ W : World, Calls Try.prog 9 #[.string (hexS abcI)] W fun e w' => e = .returned (.tuple #[.agg cm.toArray, .nilIface]) ∧ Below W.heap.size W w') := Lib.hid (by rw [HCM.out]; exact fun W => parse_any W abcI rfl)
  have SHA : Hid (∀ W : World, Calls Try.prog 13 #[.agg cm.toArray, .agg cm.toArray] W fun e w' => e = .returned (.int .i64 64) ∧ Below W.heap.size W w') := Lib.hid (by rw [HCM.out]; exact fun W => by have h := shared_any W abcI abcI rfl rfl; rw [share_same] at h; exact h)
  have hld := ld_blk hX hcz
  obtain ⟨hs, hhs⟩ : ∃ s, s = hexS abcI := ⟨_, rfl⟩
  rw [← hhs] at STR PAR
  have HHS := Lib.hid hhs
  have X1 := Lib.hid hX
  have B1 := Lib.hid hB
  clear hXX hW1 hb1 hX hB hbs hcv SUM hhs
  go_upto_region 3 with (first | (go_at_call 10; refine (STR.out _).mono ?_; rintro e w2 ⟨rfl, hb2⟩) | (go_at_call 9; refine (PAR.out _).mono ?_; rintro e w3 ⟨rfl, hb3⟩))
  have hX3 := X1.out.below hb2 X1.out.lt
  have hX3 := (hX3.below hb3 hX3.lt).alloc (.cells cm.toArray 25)
  have hY3 := Blk.new w3 25 cm.toArray
  have hB2 := B1.out.trans (hb2.mono B1.out.size)
  have hB3 := hB2.trans (hb3.mono hB2.size)
  have hB3 := hB3.alloc hB3.size (.cells cm.toArray 25)
  obtain ⟨Y, hYY⟩ : ∃ X, X = w3.heap.size := ⟨_, rfl⟩
  obtain ⟨W3, hW3⟩ : ∃ W, W = w3.alloc (.cells cm.toArray 25) := ⟨_, rfl⟩
  rw [← hW3] at hX3 hB3
  rw [← hYY, ← hW3] at hY3
  rw [← hYY, ← hW3]
  have X3 := Lib.hid hX3
  have Y3 := Lib.hid hY3
  have B3 := Lib.hid hB3
  have hst0 := fun W => st_new W [.int .u8 0, .int .u8 0, .int .u8 0, .int .u8 0, .int .u8 0, .int .u8 0, .int .u8 0, .int .u8 0, .int .u8 0, .int .u8 0, .int .u8 0, .int .u8 0, .int .u8 0, .int .u8 0, .int .u8 0, .int .u8 0, .int .u8 0, .int .u8 0, .int .u8 0, .int .u8 0, .int .u8 0, .int .u8 0, .int .u8 0, .int .u8 0, .int .u8 0, .int .u8 0, .int .u8 0, .int .u8 0, .int .u8 0, .int .u8 0, .int .u8 0, .int .u8 0] rfl (by kernel_rfl)
  have PAB := Lib.hid parse_ab
  clear hYY hW3 hb2 hb3 hX3 hY3 hB2 hB3 hld X1 B1 hst STR PAR
  go_upto_region 4 with (go_at_call 9; refine (PAB.out _).mono ?_; rintro e w4 ⟨v, rfl, hb4⟩)
  have hX5 := (X3.out.below hb4 X3.out.lt).alloc (.cells #[.int .u8 0, .int .u8 0, .int .u8 0, .int .u8 0, .int .u8 0, .int .u8 0, .int .u8 0, .int .u8 0, .int .u8 0, .int .u8 0, .int .u8 0, .int .u8 0, .int .u8 0, .int .u8 0, .int .u8 0, .int .u8 0, .int .u8 0, .int .u8 0, .int .u8 0, .int .u8 0, .int .u8 0, .int .u8 0, .int .u8 0, .int .u8 0, .int .u8 0, .int .u8 0, .int .u8 0, .int .u8 0, .int .u8 0, .int .u8 0, .int .u8 0, .int .u8 0] 25)
  have hY5 := (Y3.out.below hb4 Y3.out.lt).alloc (.cells #[.int .u8 0, .int .u8 0, .int .u8 0, .int .u8 0, .int .u8 0, .int .u8 0, .int .u8 0, .int .u8 0, .int .u8 0, .int .u8 0, .int .u8 0, .int .u8 0, .int .u8 0, .int .u8 0, .int .u8 0, .int .u8 0, .int .u8 0, .int .u8 0, .int .u8 0, .int .u8 0, .int .u8 0, .int .u8 0, .int .u8 0, .int .u8 0, .int .u8 0, .int .u8 0, .int .u8 0, .int .u8 0, .int .u8 0, .int .u8 0, .int .u8 0, .int .u8 0] 25)
  have hB4 := B3.out.trans (hb4.mono B3.out.size)
  have hB5 := hB4.alloc hB4.size (.cells #[.int .u8 0, .int .u8 0, .int .u8 0, .int .u8 0, .int .u8 0, .int .u8 0, .int .u8 0, .int .u8 0, .int .u8 0, .int .u8 0, .int .u8 0, .int .u8 0, .int .u8 0, .int .u8 0, .int .u8 0, .int .u8 0, .int .u8 0, .int .u8 0, .int .u8 0, .int .u8 0, .int .u8 0, .int .u8 0, .int .u8 0, .int .u8 0, .int .u8 0, .int .u8 0, .int .u8 0, .int .u8 0, .int .u8 0, .int .u8 0, .int .u8 0, .int .u8 0] 25)
  obtain ⟨Z, hZZ⟩ : ∃ X, X = w4.heap.size := ⟨_, rfl⟩
  obtain ⟨W5, hW5⟩ : ∃ W, W = w4.alloc (.cells #[.int .u8 0, .int .u8 0, .int .u8 0, .int .u8 0, .int .u8 0, .int .u8 0, .int .u8 0, .int .u8 0, .int .u8 0, .int .u8 0, .int .u8 0, .int .u8 0, .int .u8 0, .int .u8 0, .int .u8 0, .int .u8 0, .int .u8 0, .int .u8 0, .int .u8 0, .int .u8 0, .int .u8 0, .int .u8 0, .int .u8 0, .int .u8 0, .int .u8 0, .int .u8 0, .int .u8 0, .int .u8 0, .int .u8 0, .int .u8 0, .int .u8 0, .int .u8 0] 25) := ⟨_, rfl⟩
  rw [← hW5] at hX5 hY5 hB5
  rw [← hZZ, ← hW5]
  have X5 := Lib.hid hX5
  have Y5 := Lib.hid hY5
  have B5 := Lib.hid hB5
  have hlx5 := ld_blk hX5 hcz
  clear hZZ hW5 hb4 hX5 hY5 hB4 hB5 X3 Y3 B3 hst0 PAB
  have STR : Hid (∀ W : World, Calls Try.prog 10 #[.agg cm.toArray] W fun e w' => e = .returned (.string ⟨#[98, 97, 55, 56, 49, 54, 98, 102, 56, 102, 48, 49, 99, 102, 101, 97, 52, 49, 52, 49, 52, 48, 100, 101, 53, 100, 97, 101, 50, 50, 50, 51, 98, 48, 48, 51, 54, 49, 97, 51, 57, 54, 49, 55, 55, 97, 57, 99, 98, 52, 49, 48, 102, 102, 54, 49, 102, 50, 48, 48, 49, 53, 97, 100]⟩) ∧ Below W.heap.size W w') := Lib.hid (by rw [← abc_hex, HCM.out]; exact fun W => string_any W abcI rfl)
  have heq : ∀ W : World, (Op.equalIn 10000 25 (.agg cm.toArray) (.agg cm.toArray)).run Try.prog W = .ok true W := by rw [HCM.out]; exact fun W => by rw [eq25 W abcI abcI rfl rfl]; simp
  have hb1 := fun W : World => bs1_36 W cm HCL.out
  have SHO : Hid (∀ W : World, Calls Try.prog 15 #[.slice (some ⟨W.heap.size, 0, none⟩) 1 1, .agg cm.toArray, .int .i64 4] (W.alloc (.cells cm.toArray 25)) fun e w' => e = .returned (.int .i64 4) ∧ Below W.heap.size W w') := Lib.hid (by
    rw [HCM.out]
    intro W
    have h := short_any (W.alloc (.cells (bc abcI).toArray 25)) (some ⟨W.heap.size, 0, none⟩) [abcI] 1 abcI 4 rfl (by decide) ⟨fun m hm => by rw [List.mem_singleton.1 hm]; rfl, fun _ => ⟨W.heap.size, 0, rfl, fun i m hi j v hv => by
      cases i with
      | zero =>
        injection hi with hi
        subst hi
        rw [cell_of_row _ W.heap.size _ _ 25 (0, 0) (heap_alloc_new W _), show 0 + 0 * 32 + j = j by omega, List.getElem?_toArray]
        exact hv
      | succ i => cases hi⟩⟩
    have e4 : shortN abcI (least0 4) [abcI] = 4 := by show stepS abcI 4 abcI = 4; unfold stepS; rw [if_pos rfl]
    rw [e4] at h
    exact h.mono (fun e w' ⟨h1, h2⟩ => ⟨h1, ((Below.refl W.heap.size W).alloc (Nat.le_refl _) _).trans (h2.mono (by simp))⟩))
  go_wp2_with (first
    | (go_at_call 10; refine (STR.out _).mono ?_; rintro e w6 ⟨rfl, hb6⟩; have X6 := Lib.hid (X5.out.below hb6 X5.out.lt); have hlx6 := ld_blk X6.out hcz; have hly6 := ld_blk (Y5.out.below hb6 Y5.out.lt) hcz; have B6 := Lib.hid (B5.out.trans (hb6.mono B5.out.size)); clear hb6)
    | (go_at_call 13; refine (SHA.out _).mono ?_; rintro e w7 ⟨rfl, hb7⟩; have X7 := Lib.hid (X6.out.below hb7 X6.out.lt); have hlx7 := ld_blk X7.out hcz; have hlx8 := ld_blk (X7.out.alloc (.cells cm.toArray 25)) hcz; have B7 := Lib.hid (B6.out.trans (hb7.mono B6.out.size)); clear hb7)
    | (go_at_call 15; refine (SHO.out _).mono ?_; rintro e w8 ⟨rfl, hb8⟩; have B8 := Lib.hid (B7.out.trans (hb8.mono B7.out.size)); clear hb8))
  go_ret
  exact ⟨rfl, B8.out⟩
#print axioms known_any
end Go.Proofs.Ytpkikibcfkdodaa
