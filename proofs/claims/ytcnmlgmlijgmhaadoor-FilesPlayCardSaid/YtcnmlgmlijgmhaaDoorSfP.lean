/-
  simfs.Arm with nothing kept.
-/
import Derived.Test.YtcnmlgmlijgmhaaDoorSfO
namespace Go.Proofs.YtcnmlgmlijgmhaaDoor
open Go Go.RowKit Go.Maps

set_option maxHeartbeats 2000000 in
theorem cloneB_none (w : World) (ty : Value) (h : ty = .slice none 0 0) : Calls Tryd.prog 38 #[ty] w fun e w' => e = .returned (.slice none 0 0) ∧ w = w' := by
  subst h
  have q : ∀ (w : World) (a : Option Addr) (n c n' c' : Nat), (binOp .eql 29 (.slice a n c) (.slice none n' c')).run Tryd.prog w = .ok (.bool a.isNone) w := fun w a n c n' c' => Lib.run_eql_slice_nil w _ _ a n c n' c' Tryd.underlying29
  go_enter Tryd.func38, Tryd.ntmps38
  go_wp2
  go_ret
  exact ⟨rfl, rfl⟩
set_option maxRecDepth 100000 in
set_option maxHeartbeats 2000000 in
theorem arm_none {w : World} {F bf bs n : Nat} {T S : Tr} {vp : Value} {q now ino ops : Int} {off : Bool} {armed : Int} {vk : Value} (h : FsIs w F bf bs n T S vp q now ino ops off armed vk) (m : Int) (hm : 1 ≤ m) :
    Calls Tryd.prog 25 #[.pointer (some ⟨F, 0, none⟩), .int .i64 m, .slice none 0 0] w fun e w' => e = .returned (.tuple #[]) ∧ FsIs w' F bf bs n T S vp q now ino ops off m (.slice none 0 0) ∧ w.grownBy w' (some F) := by
  have FS := Lib.hid h
  have c8 := h.x.cell 8
  have f8 := h.x.frozen 8
  have c9 := h.x.cell 9
  have f9 := h.x.frozen 9
  have CL := Lib.hid (fun W => cloneB_none W _ rfl)
  clear h
  go_enter Tryd.func25, Tryd.ntmps25
  go_wp2_with (go_at_call 38; refine (CL.out _).mono ?_; rintro e w' ⟨rfl, rfl⟩)
  rw [show max m 1 = m by omega]
  refine ⟨rfl, _, (by first | rfl | kernel_rfl), rfl, (FS.out.setArmed m).setKeep _, ?_⟩
  exact World.grownBy.trans (grown_cellF w F 8 _) (grown_cellF _ F 9 _)
end Go.Proofs.YtcnmlgmlijgmhaaDoor
