/-
  simfs: On, Ops, Pending's cell set, and what a disk that is off answers.
-/
import Derived.Test.YtcnmlgmlijgmhaaDoorSfF
namespace Go.Proofs.YtcnmlgmlijgmhaaDoor
open Go Go.RowKit Go.Maps

section
variable {w w' : World} {F bf bs n : Nat} {T S : Tr} {vp : Value} {q now ino ops : Int} {off : Bool} {armed : Int} {vk : Value}
theorem FsIs.setOff (h : FsIs w F bf bs n T S vp q now ino ops off armed vk) (t : Bool) : FsIs (w.setCell ⟨F, 7, none⟩ (.bool t)) F bf bs n T S vp q now ino ops t armed vk :=
  ⟨by simpa using h.x.set_ 7 (.bool t), h.f.setCell (Ne.symm (blk_tree_ne h.x h.f)) _, h.s.setCell (Ne.symm (blk_tree_ne h.x h.s)) _, h.ne⟩
theorem FsIs.setOps (h : FsIs w F bf bs n T S vp q now ino ops off armed vk) (t : Int) : FsIs (w.setCell ⟨F, 6, none⟩ (.int .i64 t)) F bf bs n T S vp q now ino t off armed vk :=
  ⟨by simpa using h.x.set_ 6 (.int .i64 t), h.f.setCell (Ne.symm (blk_tree_ne h.x h.f)) _, h.s.setCell (Ne.symm (blk_tree_ne h.x h.s)) _, h.ne⟩
theorem FsIs.setArmed (h : FsIs w F bf bs n T S vp q now ino ops off armed vk) (t : Int) : FsIs (w.setCell ⟨F, 8, none⟩ (.int .i64 t)) F bf bs n T S vp q now ino ops off t vk :=
  ⟨by simpa using h.x.set_ 8 (.int .i64 t), h.f.setCell (Ne.symm (blk_tree_ne h.x h.f)) _, h.s.setCell (Ne.symm (blk_tree_ne h.x h.s)) _, h.ne⟩
theorem FsIs.setPend (h : FsIs w F bf bs n T S vp q now ino ops off armed vk) (t : Value) : FsIs (w.setCell ⟨F, 2, none⟩ t) F bf bs n T S t q now ino ops off armed vk :=
  ⟨by simpa using h.x.set_ 2 t, h.f.setCell (Ne.symm (blk_tree_ne h.x h.f)) _, h.s.setCell (Ne.symm (blk_tree_ne h.x h.s)) _, h.ne⟩
theorem FsIs.setKeep (h : FsIs w F bf bs n T S vp q now ino ops off armed vk) (t : Value) : FsIs (w.setCell ⟨F, 9, none⟩ t) F bf bs n T S vp q now ino ops off armed t :=
  ⟨by simpa using h.x.set_ 9 t, h.f.setCell (Ne.symm (blk_tree_ne h.x h.f)) _, h.s.setCell (Ne.symm (blk_tree_ne h.x h.s)) _, h.ne⟩
end

set_option maxRecDepth 100000 in
theorem on_any {w : World} {F bf bs n : Nat} {T S : Tr} {vp : Value} {q now ino ops : Int} {off : Bool} {armed : Int} {vk : Value} (h : FsIs w F bf bs n T S vp q now ino ops off armed vk) :
    Calls Tryd.prog 18 #[.pointer (some ⟨F, 0, none⟩)] w fun e w' => e = .returned (.tuple #[]) ∧ w' = w.setCell ⟨F, 7, none⟩ (.bool false) := by
  have c7 := h.x.cell 7
  have f7 := h.x.frozen 7
  clear h
  go_enter Tryd.func18, Tryd.ntmps18
  go_wp2
  exact ⟨rfl, _, (by first | rfl | kernel_rfl), rfl, rfl⟩
set_option maxRecDepth 100000 in
theorem ops_any {w : World} {F bf bs n : Nat} {T S : Tr} {vp : Value} {q now ino ops : Int} {off : Bool} {armed : Int} {vk : Value} (h : FsIs w F bf bs n T S vp q now ino ops off armed vk) :
    Calls Tryd.prog 27 #[.pointer (some ⟨F, 0, none⟩)] w fun e w' => e = .returned (.int .i64 ops) ∧ w = w' := by
  have c6 := h.x.cell 6
  clear h
  go_enter Tryd.func27, Tryd.ntmps27
  go_wp2
  go_ret
  exact ⟨rfl, rfl⟩
set_option maxRecDepth 100000 in
set_option maxHeartbeats 2000000 in
theorem refusesFile_off {w : World} {F bf bs n : Nat} {T S : Tr} {vp : Value} {q now ino ops : Int} {armed : Int} {vk : Value} (h : FsIs w F bf bs n T S vp q now ino ops true armed vk) (p : ByteArray) (mode : Int) (v : Value) :
    Calls Tryd.prog 55 #[.pointer (some ⟨F, 0, none⟩), .string p, .int .i64 mode, v] w fun e w' => e = .returned (.int .i64 13) ∧ w = w' := by
  have c7 := h.x.cell 7
  clear h
  go_enter Tryd.func55, Tryd.ntmps55
  go_wp2_with fail
  go_ret
  exact ⟨rfl, rfl⟩
set_option maxRecDepth 100000 in
set_option maxHeartbeats 2000000 in
theorem write_off {w : World} {F bf bs n : Nat} {T S : Tr} {vp : Value} {q now ino ops : Int} {armed : Int} {vk : Value} (h : FsIs w F bf bs n T S vp q now ino ops true armed vk) (p : ByteArray) (mode : Int) (v : Value) :
    Calls Tryd.prog 16 #[.pointer (some ⟨F, 0, none⟩), .string p, .int .i64 mode, v] w fun e w' => e = .returned (.int .i64 13) ∧ w = w' := by
  have RF := Lib.hid (refusesFile_off h p mode v)
  clear h
  go_enter Tryd.func16, Tryd.ntmps16
  go_wp2_with (go_at_call 55; refine RF.out.mono ?_; rintro e w' ⟨rfl, rfl⟩)
  go_ret
  exact ⟨rfl, rfl⟩
end Go.Proofs.YtcnmlgmlijgmhaaDoor
