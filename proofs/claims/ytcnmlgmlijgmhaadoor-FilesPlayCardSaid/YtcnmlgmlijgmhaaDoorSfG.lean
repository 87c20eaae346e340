/-
  stat.Smudge of one entry.
-/
import Derived.Test.YtcnmlgmlijgmhaaDoorSfF
import Derived.Test.YtcnmlgmlijgmhaaDoorEClone
import Derived.Laws.IdiomStrings
namespace Go.Proofs.YtcnmlgmlijgmhaaDoor
open Go Go.RowKit Go.Maps

/-- An entry whose stat is forgotten where its file may have changed since. -/
def smE (path : ByteArray) (stage mode : Int) (data : ByteArray) (time size written : Int) : En := if written ≤ time then (path, stage, mode, data, 0, 0) else (path, stage, mode, data, time, size)
set_option maxRecDepth 100000 in
set_option maxHeartbeats 4000000 in
theorem smudge_one (w : World) (v : Value) (path : ByteArray) (stage mode : Int) (data : ByteArray) (time size written : Int) (h : Reads 6 cE w v [(path, stage, mode, data, time, size)]) :
    Calls Tryd.prog 31 #[v, .int .i64 written] w (OwnTo 60 6 cE [smE path stage mode data time size written] w) := by
  have CL := Lib.hid (cloneE_any w v [(path, stage, mode, data, time, size)] h (by simp))
  obtain ⟨r, hr⟩ : ∃ r, r = smE path stage mode data time size written := ⟨_, rfl⟩
  rw [← hr]
  have HR := Lib.hid hr
  obtain ⟨A, c, rfl⟩ := h.form
  clear h hr
  go_enter Tryd.func31, Tryd.ntmps31
  go_wp2_with fail
  refine CL.out.mono ?_
  rintro e w2 ⟨u, rfl, own, b2⟩
  obtain ⟨g, cap, rfl⟩ : ∃ g cap, u = .slice (some ⟨g, 0, none⟩) 1 cap := by
    rcases own.2 with ⟨_, e2⟩ | ⟨g, cap, cur, e, _⟩
    · simp at e2
    · exact ⟨_, _, e⟩
  have o2 : w2.ownsRow w.heap.size 60 6 (.slice (some ⟨g, 0, none⟩) 1 cap) 1 [.string path, .int .i64 stage, .int .i64 mode, .string data, .int .i64 time, .int .i64 size] := own
  have HO := Lib.hid o2
  have HB := Lib.hid b2
  have hgl := (o2.lt g rfl).2
  have hgb := (o2.lt g rfl).1
  have c0 := o2.cellAt 0 (by decide)
  have c1 := o2.cellAt 1 (by decide)
  have c2 := o2.cellAt 2 (by decide)
  have c3 := o2.cellAt 3 (by decide)
  have c4 := o2.cellAt 4 (by decide)
  have c5 := o2.cellAt 5 (by decide)
  have f4 := o2.frozenAt 4
  have f5 := o2.frozenAt 5
  clear own o2 b2 CL
  by_cases hge : written ≤ time
  · have HF := Lib.hid (show r = (path, stage, mode, data, 0, 0) by rw [HR.out]; unfold smE; rw [if_pos hge])
    have HGB := Lib.hid hgb
    have hd : decide (written ≤ time) = true := decide_eq_true hge
    go_wp2
    refine wp_loop_rounds 2 ?_
    rw [rounds_succ]
    go_wp2
    try (rw [rounds_succ]; go_wp2)
    go_ret
    refine ⟨_, rfl, ?_, ((HB.out.setCell (p := ⟨g, 4, none⟩) HGB.out _).setCell (p := ⟨g, 5, none⟩) HGB.out _).alloc (by simp; exact HB.out.size) _⟩
    rw [HF.out]
    exact (((HO.out.stored 4 (.int .i64 0)).1.stored 5 (.int .i64 0)).1).alloc _
  · have HF := Lib.hid (show r = (path, stage, mode, data, time, size) by rw [HR.out]; unfold smE; rw [if_neg hge])
    have hd : decide (written ≤ time) = false := decide_eq_false hge
    go_wp2
    refine wp_loop_rounds 2 ?_
    rw [rounds_succ]
    go_wp2
    try (rw [rounds_succ]; go_wp2)
    go_ret
    refine ⟨_, rfl, ?_, HB.out.alloc HB.out.size _⟩
    rw [HF.out]
    exact HO.out.alloc _

/-! ### Reading a file -/
theorem conv_new (w' : World) (s : ByteArray) (cap : Nat) (g : Nat) (hg : w'.heap[g]? = some (.cells (bytesRow s cap) 5 ((bytesRow s cap).size, (bytesRow s cap).size + 1))) :
    (convert 32 9 (.slice (some ⟨g, 0, none⟩) s.size cap)).run Tryd.prog w' = .ok (.string s) w' := by
  have h := run_convert_bytes_back (P := Tryd.prog) w' 32 9 5 ⟨g, 0, none⟩ cap s.data.toList Tryd.underlying32 Tryd.underlying5 Tryd.underlying9 (fun j hj => by
    have hj' : j < s.data.size := by simpa using hj
    rw [show (⟨g, 0, none⟩ : Addr).add j = ⟨g, j, none⟩ by unfold Addr.add; split <;> simp_all, cell_of_row w' g j _ 5 _ hg, bytesRow_at s cap j hj']
    simp)
  rw [← Lib.size_eq] at h
  rw [h, show (⟨s.data.toList.toArray⟩ : ByteArray) = s by simp]
set_option maxRecDepth 100000 in
set_option maxHeartbeats 4000000 in
theorem read_yes {w : World} {F bf bs n : Nat} {T S : Tr} {vp : Value} {q now ino ops : Int} {armed : Int} {vk : Value} (h : FsIs w F bf bs n T S vp q now ino ops false armed vk) (p : ByteArray) (hp : p.size ≤ 1000) {f : FV} (hf : getT T p = some f) :
    Calls Tryd.prog 19 #[.pointer (some ⟨F, 0, none⟩), .string p] w fun e w' => ∃ v, e = .returned (.tuple #[v, .int .i64 0]) ∧ (∀ w'', Below w'.heap.size w' w'' → (convert 32 9 v).run Tryd.prog w'' = .ok (.string f.data) w'') ∧ Below w.heap.size w w' := by
  have HFS := Lib.hid h
  have x7 := h.x.cell 7
  have x0 := h.x.cell 0
  have LK := Lib.hid (lacks_any _ bf n T p h.f (by unfold maxLen; omega))
  rw [hf] at LK
  have HF := Lib.hid hf
  clear h hf
  go_enter Tryd.func19, Tryd.ntmps19
  go_wp2_with fail
  refine LK.out.mono ?_
  rintro e w2 ⟨rfl, b2⟩
  have FS2 := Lib.hid (HFS.out.below b2)
  have D2 := Lib.hid b2
  have y0 := FS2.out.x.cell 0
  have lk := FS2.out.f.look (p := p) (by unfold maxLen; omega)
  rw [HF.out] at lk
  obtain ⟨m, t, i, s⟩ := f
  simp only [Option.getD, fV] at lk
  have fi := fun W => field_data m t i s W
  have cv := fun W => run_bytes_of_string (P := Tryd.prog) W 9 32 5 s Tryd.underlying9 Tryd.underlying32 Tryd.underlying5
  clear b2 LK x7 x0
  go_wp2_with fail
  go_ret2
  refine ⟨_, rfl, fun w'' hb => conv_new w'' s _ _ ((hb.block _ (by simp)).trans (heap_alloc_new ..)), (D2.out.alloc D2.out.size _).drew⟩
end Go.Proofs.YtcnmlgmlijgmhaaDoor
