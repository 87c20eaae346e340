/-
  simfs: New, Off, Now, Tick; (tree).lacks.
-/
import Derived.Test.YtcnmlgmlijgmhaaDoorMFile
namespace Go.Proofs.YtcnmlgmlijgmhaaDoor
open Go Go.RowKit Go.Maps

/-- A disk in memory. -/
structure FsIs (w : World) (F bf bs n : Nat) (T S : Tr) (vp : Value) (q now ino ops : Int) (off : Bool) (armed : Int) (vk : Value) : Prop where
  x : Blk w F 74 #[.map (some bf), .map (some bs), vp, .int .i64 q, .int .i64 now, .int .i64 ino, .int .i64 ops, .bool off, .int .i64 armed, vk]
  f : TreeIs w bf n T
  s : TreeIs w bs n S
  ne : bf ≠ bs
theorem blk_tree_ne {w : World} {F b n : Nat} {T : Tr} {t : TypeId} {cs : Array Value} (h : Blk w F t cs) (g : TreeIs w b n T) : F ≠ b := by
  obtain ⟨es, clock, hb, _⟩ := g
  rintro rfl
  unfold Blk at h
  rw [h] at hb
  cases hb
section
variable {w w' : World} {F bf bs n : Nat} {T S : Tr} {vp : Value} {q now ino ops : Int} {off : Bool} {armed : Int} {vk : Value}
theorem FsIs.below (h : FsIs w F bf bs n T S vp q now ino ops off armed vk) (hb : Below w.heap.size w w') : FsIs w' F bf bs n T S vp q now ino ops off armed vk :=
  ⟨h.x.below hb h.x.lt, h.f.below hb, h.s.below hb, h.ne⟩
theorem FsIs.setNow (h : FsIs w F bf bs n T S vp q now ino ops off armed vk) (t : Int) : FsIs (w.setCell ⟨F, 4, none⟩ (.int .i64 t)) F bf bs n T S vp q t ino ops off armed vk :=
  ⟨by simpa using h.x.set_ 4 (.int .i64 t), h.f.setCell (Ne.symm (blk_tree_ne h.x h.f)) _, h.s.setCell (Ne.symm (blk_tree_ne h.x h.s)) _, h.ne⟩
theorem FsIs.setIno (h : FsIs w F bf bs n T S vp q now ino ops off armed vk) (t : Int) : FsIs (w.setCell ⟨F, 5, none⟩ (.int .i64 t)) F bf bs n T S vp q now t ops off armed vk :=
  ⟨by simpa using h.x.set_ 5 (.int .i64 t), h.f.setCell (Ne.symm (blk_tree_ne h.x h.f)) _, h.s.setCell (Ne.symm (blk_tree_ne h.x h.s)) _, h.ne⟩
end

set_option maxRecDepth 100000 in
set_option maxHeartbeats 2000000 in
theorem new_any (w : World) (q : Int) : Calls Tryd.prog 11 #[.int .i64 q] w fun e w' => ∃ F bf bs, e = .returned (.pointer (some ⟨F, 0, none⟩)) ∧ FsIs w' F bf bs 0 [] [] (.slice none 0 0) q 0 0 0 false 0 (.slice none 0 0) ∧ Below w.heap.size w w' := by
  have hmm := @run_makeMap Tryd.prog
  have d1 := (Below.refl w.heap.size w).alloc (Nat.le_refl _) (.map #[] 0)
  have d2 := d1.alloc d1.size (.map #[] 0)
  have d3 := d2.alloc d2.size (.cells #[.map (some w.heap.size), .map (some (w.heap.size + 1)), .slice none 0 0, .int .i64 q, .int .i64 0, .int .i64 0, .int .i64 0, .bool false, .int .i64 0, .slice none 0 0] 74)
  have H3 := Lib.hid d3
  clear d1 d2 d3
  go_enter Tryd.func11, Tryd.ntmps11
  go_wp2
  go_ret
  refine ⟨w.heap.size + 1 + 1, w.heap.size, w.heap.size + 1, by first | rfl | simp, ⟨?_, ?_, ?_, ?_⟩, H3.out⟩
  · simpa using Blk.new ((w.alloc (.map #[] 0)).alloc (.map #[] 0)) 74 _
  · exact ((TreeIs.made w).alloc _).alloc _
  · simpa using (TreeIs.made (w.alloc (.map #[] 0))).alloc _
  · simp

set_option maxRecDepth 100000 in
theorem off_any {w : World} {F bf bs n : Nat} {T S : Tr} {vp : Value} {q now ino ops : Int} {off : Bool} {armed : Int} {vk : Value} (h : FsIs w F bf bs n T S vp q now ino ops off armed vk) :
    Calls Tryd.prog 26 #[.pointer (some ⟨F, 0, none⟩)] w fun e w' => e = .returned (.bool off) ∧ w = w' := by
  have c7 := h.x.cell 7
  clear h
  go_enter Tryd.func26, Tryd.ntmps26
  go_wp2
  go_ret
  exact ⟨rfl, rfl⟩
set_option maxRecDepth 100000 in
theorem now_any {w : World} {F bf bs n : Nat} {T S : Tr} {vp : Value} {q now ino ops : Int} {off : Bool} {armed : Int} {vk : Value} (h : FsIs w F bf bs n T S vp q now ino ops off armed vk) :
    Calls Tryd.prog 33 #[.pointer (some ⟨F, 0, none⟩)] w fun e w' => e = .returned (.int .i64 now) ∧ w = w' := by
  have c4 := h.x.cell 4
  clear h
  go_enter Tryd.func33, Tryd.ntmps33
  go_wp2
  go_ret
  exact ⟨rfl, rfl⟩
set_option maxRecDepth 100000 in
theorem tick_any {w : World} {F bf bs n : Nat} {T S : Tr} {vp : Value} {q now ino ops : Int} {off : Bool} {armed : Int} {vk : Value} (h : FsIs w F bf bs n T S vp q now ino ops off armed vk) (h0 : 0 ≤ now) (h1 : now ≤ 1000000000) :
    Calls Tryd.prog 21 #[.pointer (some ⟨F, 0, none⟩)] w fun e w' => e = .returned (.tuple #[]) ∧ w' = w.setCell ⟨F, 4, none⟩ (.int .i64 (now + 1)) := by
  have c4 := h.x.cell 4
  have f4 := h.x.frozen 4
  clear h
  go_enter Tryd.func21, Tryd.ntmps21
  go_wp2
  exact ⟨rfl, _, (by first | rfl | kernel_rfl), rfl, rfl⟩

set_option maxRecDepth 100000 in
set_option maxHeartbeats 1000000 in
theorem lacks_any (w : World) (b n : Nat) (T : Tr) (p : ByteArray) (h : TreeIs w b n T) (hp : p.size ≤ maxLen) :
    Calls Tryd.prog 58 #[.map (some b), .string p] w fun e w' => e = .returned (.int .i64 (if (getT T p).isSome then 0 else 5)) ∧ Below w.heap.size w w' := by
  have lk := h.look_ok hp
  have d1 := Lib.hid (fun cs => (Below.refl w.heap.size w).alloc (Nat.le_refl _) (.cells cs 77))
  obtain ⟨f, hf⟩ : ∃ f, f = (getT T p).getD noF := ⟨_, rfl⟩
  rw [← hf] at lk
  unfold fV at lk
  cases hg : (getT T p).isSome with
  | true =>
    rw [hg] at lk
    clear hf hg h
    go_enter Tryd.func58, Tryd.ntmps58
    go_wp2
    go_ret
    exact ⟨rfl, d1.out _⟩
  | false =>
    rw [hg] at lk
    clear hf hg h
    go_enter Tryd.func58, Tryd.ntmps58
    go_wp2
    go_ret
    exact ⟨rfl, d1.out _⟩

end Go.Proofs.YtcnmlgmlijgmhaaDoor
