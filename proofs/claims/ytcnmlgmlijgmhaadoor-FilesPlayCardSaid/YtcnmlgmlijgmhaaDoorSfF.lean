/-
  simfs.Stat of a file that is there; stat.Fresh, stat.Note.
-/
import Derived.Test.YtcnmlgmlijgmhaaDoorSfE
import Derived.Laws.ResultCell
namespace Go.Proofs.YtcnmlgmlijgmhaaDoor
open Go Go.RowKit Go.Maps

theorem results_row_tmp {P : Program} {fn : Func} {p u : Tmp} {ty : TypeId} (h : fn.results = #[.cell p ty, .tmp u]) (tmps : Array Value) (w : World) (g : Nat) (t : TypeId) (cs : Array Value) (fr : Nat × Nat) (d : TypeDesc)
    (hp : tmps.getD p undef = .pointer (some ⟨g, 0, none⟩)) (hg : w.heap[g]? = some (.cells cs t fr))
    (hu : P.underlying ty = some d) (hd : (match d with | .struct _ | .array _ _ => true | _ => false) = true) (hi : (P.info? ty).map (·.size) = some cs.size) :
    (results fn tmps).run P w = .ok (.tuple #[.agg cs, tmps.getD u undef]) w := by
  rw [results_cell_tmp h, hp]
  simp [asAddr, run_loadVar_row w g t ty cs fr d hg hu hd hi, Result.andThen]

/-- A file's stat. -/
def stV (size time inode mode : Int) : Value := .agg #[.int .i64 size, .int .i64 time, .int .i64 inode, .int .i64 mode]
/-- An entry. -/
def enV (path : ByteArray) (stage mode : Int) (data : ByteArray) (time size : Int) : Value := .agg #[.string path, .int .i64 stage, .int .i64 mode, .string data, .int .i64 time, .int .i64 size]
def freshB (stage mode time size ss st sm written : Int) : Bool := (time == st) && ((size == ss) && ((mode == sm) && ((stage == 0) && decide (time < written))))

set_option maxRecDepth 100000 in
set_option maxHeartbeats 4000000 in
theorem fresh29_any (w : World) (path data : ByteArray) (stage mode time size ss st si sm written : Int) :
    Calls Tryd.prog 29 #[enV path stage mode data time size, stV ss st si sm, .int .i64 written] w fun e w' => e = .returned (.bool (freshB stage mode time size ss st sm written)) ∧ Below w.heap.size w w' := by
  have d1 := (Below.refl w.heap.size w).alloc (Nat.le_refl _) (.cells #[.string path, .int .i64 stage, .int .i64 mode, .string data, .int .i64 time, .int .i64 size] 60)
  have d2 := Lib.hid (d1.alloc d1.size (.cells #[.int .i64 ss, .int .i64 st, .int .i64 si, .int .i64 sm] 51))
  obtain ⟨r, hr⟩ : ∃ r, r = freshB stage mode time size ss st sm written := ⟨_, rfl⟩
  rw [← hr]
  unfold freshB at hr
  unfold enV stV
  clear d1
  cases h1 : (time == st) with
  | false =>
    rw [h1, Bool.false_and] at hr
    have HR := Lib.hid hr
    clear hr
    go_enter Tryd.func29, Tryd.ntmps29
    go_wp2
    go_ret
    exact ⟨by rw [HR.out]; rfl, d2.out⟩
  | true =>
  cases h2 : (size == ss) with
  | false =>
    rw [h1, h2, Bool.true_and, Bool.false_and] at hr
    have HR := Lib.hid hr
    clear hr
    go_enter Tryd.func29, Tryd.ntmps29
    go_wp2
    go_ret
    exact ⟨by rw [HR.out]; rfl, d2.out⟩
  | true =>
  cases h3 : (mode == sm) with
  | false =>
    rw [h1, h2, h3, Bool.true_and, Bool.true_and, Bool.false_and] at hr
    have HR := Lib.hid hr
    clear hr
    go_enter Tryd.func29, Tryd.ntmps29
    go_wp2
    go_ret
    exact ⟨by rw [HR.out]; rfl, d2.out⟩
  | true =>
  cases h4 : (stage == 0) with
  | false =>
    rw [h1, h2, h3, h4, Bool.true_and, Bool.true_and, Bool.true_and, Bool.false_and] at hr
    have HR := Lib.hid hr
    clear hr
    go_enter Tryd.func29, Tryd.ntmps29
    go_wp2
    go_ret
    exact ⟨by rw [HR.out]; rfl, d2.out⟩
  | true =>
    rw [h1, h2, h3, h4, Bool.true_and, Bool.true_and, Bool.true_and, Bool.true_and] at hr
    have HR := Lib.hid hr
    clear hr
    go_enter Tryd.func29, Tryd.ntmps29
    go_wp2
    go_ret
    exact ⟨by rw [HR.out]; rfl, d2.out⟩

set_option maxRecDepth 100000 in
set_option maxHeartbeats 4000000 in
theorem note_any (w : World) (path data : ByteArray) (stage mode time size ss st si sm : Int) :
    Calls Tryd.prog 30 #[enV path stage mode data time size, stV ss st si sm] w fun e w' => e = .returned (enV path stage mode data st ss) ∧ Below w.heap.size w w' := by
  have D0 := (Below.refl w.heap.size w).alloc (Nat.le_refl _) (.cells #[.string path, .int .i64 stage, .int .i64 mode, .string data, .int .i64 time, .int .i64 size] 60)
  have D1 := D0.alloc D0.size (.cells #[.int .i64 ss, .int .i64 st, .int .i64 si, .int .i64 sm] 51)
  have D2 := D1.alloc D1.size (.cells #[.string ⟨#[]⟩, .int .i64 0, .int .i64 0, .string ⟨#[]⟩, .int .i64 0, .int .i64 0] 60)
  have K1 := ((Blk.new w 60 #[.string path, .int .i64 stage, .int .i64 mode, .string data, .int .i64 time, .int .i64 size]).alloc (.cells #[.int .i64 ss, .int .i64 st, .int .i64 si, .int .i64 sm] 51)).alloc (.cells #[.string ⟨#[]⟩, .int .i64 0, .int .i64 0, .string ⟨#[]⟩, .int .i64 0, .int .i64 0] 60)
  have K2 := (Blk.new (w.alloc (.cells #[.string path, .int .i64 stage, .int .i64 mode, .string data, .int .i64 time, .int .i64 size] 60)) 51 #[.int .i64 ss, .int .i64 st, .int .i64 si, .int .i64 sm]).alloc (.cells #[.string ⟨#[]⟩, .int .i64 0, .int .i64 0, .string ⟨#[]⟩, .int .i64 0, .int .i64 0] 60)
  have K3 := Blk.new ((w.alloc (.cells #[.string path, .int .i64 stage, .int .i64 mode, .string data, .int .i64 time, .int .i64 size] 60)).alloc (.cells #[.int .i64 ss, .int .i64 st, .int .i64 si, .int .i64 sm] 51)) 60 #[.string ⟨#[]⟩, .int .i64 0, .int .i64 0, .string ⟨#[]⟩, .int .i64 0, .int .i64 0]
  rw [show (w.alloc (.cells #[.string path, .int .i64 stage, .int .i64 mode, .string data, .int .i64 time, .int .i64 size] 60)).heap.size = w.heap.size + 1 by simp] at K2
  rw [show ((w.alloc (.cells #[.string path, .int .i64 stage, .int .i64 mode, .string data, .int .i64 time, .int .i64 size] 60)).alloc (.cells #[.int .i64 ss, .int .i64 st, .int .i64 si, .int .i64 sm] 51)).heap.size = w.heap.size + 2 by simp] at K3
  have HK1 := Lib.hid K1
  have HK2 := Lib.hid K2
  have HK3 := Lib.hid K3
  have HD2 := Lib.hid D2
  unfold enV stV
  clear D0 D1 D2 K1 K2 K3
  go_enter Tryd.func30, Tryd.ntmps30
  go_upto_region 1 with fail
  obtain ⟨X, hX⟩ : ∃ X, X = w.heap.size := ⟨_, rfl⟩
  obtain ⟨W, hW⟩ : ∃ W, W = ((w.alloc (.cells #[.string path, .int .i64 stage, .int .i64 mode, .string data, .int .i64 time, .int .i64 size] 60)).alloc (.cells #[.int .i64 ss, .int .i64 st, .int .i64 si, .int .i64 sm] 51)).alloc (.cells #[.string ⟨#[]⟩, .int .i64 0, .int .i64 0, .string ⟨#[]⟩, .int .i64 0, .int .i64 0] 60) := ⟨_, rfl⟩
  rw [← hW] at HK1 HK2 HK3 HD2 ⊢
  rw [← hX] at HK1 HK2 HK3 ⊢
  clear hW
  have HX := Lib.hid hX
  clear hX
  have a4 := HK1.out.cell 4
  have a5 := HK1.out.cell 5
  have g4 := HK1.out.frozen 4
  have g5 := HK1.out.frozen 5
  have b0 := HK2.out.cell 0
  have b1 := HK2.out.cell 1
  go_region_law (fail)
  all_goals
    have K1 : Hid (Blk ((W.setCell ⟨X, 4, none⟩ (.int .i64 st)).setCell ⟨X, 5, none⟩ (.int .i64 ss)).drew X 60 #[.string path, .int .i64 stage, .int .i64 mode, .string data, .int .i64 st, .int .i64 ss]) := Lib.hid (show Blk ((W.setCell ⟨X, 4, none⟩ (.int .i64 st)).setCell ⟨X, 5, none⟩ (.int .i64 ss)) X 60 _ from by simpa using (HK1.out.set_ 4 (.int .i64 st)).set_ 5 (.int .i64 ss))
    have K3 : Hid (Blk ((W.setCell ⟨X, 4, none⟩ (.int .i64 st)).setCell ⟨X, 5, none⟩ (.int .i64 ss)).drew (X + 2) 60 #[.string ⟨#[]⟩, .int .i64 0, .int .i64 0, .string ⟨#[]⟩, .int .i64 0, .int .i64 0]) := Lib.hid (show Blk ((W.setCell ⟨X, 4, none⟩ (.int .i64 st)).setCell ⟨X, 5, none⟩ (.int .i64 ss)) (X + 2) 60 _ from (HK3.out.far (p := ⟨X, 4, none⟩) (by show X + 2 ≠ X; omega) _).far (p := ⟨X, 5, none⟩) (by show X + 2 ≠ X; omega) _)
    have HB2 := Lib.hid (((HD2.out.setCell (p := ⟨X, 4, none⟩) (by have := HX.out; show w.heap.size ≤ X; omega) (.int .i64 st)).setCell (p := ⟨X, 5, none⟩) (by have := HX.out; show w.heap.size ≤ X; omega) (.int .i64 ss)).drew)
    clear a4 a5 g4 g5 b0 b1
    generalize hW2 : ((W.setCell ⟨X, 4, none⟩ (.int .i64 st)).setCell ⟨X, 5, none⟩ (.int .i64 ss)).drew = W2 at *
    clear hW2
    have c0 := K1.out.cell 0
    have c1 := K1.out.cell 1
    have c2 := K1.out.cell 2
    have c3 := K1.out.cell 3
    have c4 := K1.out.cell 4
    have c5 := K1.out.cell 5
    have k0 := K3.out.cell 0
    have k1 := K3.out.cell 1
    have k2 := K3.out.cell 2
    have k3 := K3.out.cell 3
    have k4 := K3.out.cell 4
    have k5 := K3.out.cell 5
    have z0 := K3.out.frozen 0
    have z1 := K3.out.frozen 1
    have z2 := K3.out.frozen 2
    have z3 := K3.out.frozen 3
    have z4 := K3.out.frozen 4
    have z5 := K3.out.frozen 5
    have E := Lib.hid (show Blk ((((((W2.setCell ⟨X + 2, 0, none⟩ (.string path)).setCell ⟨X + 2, 1, none⟩ (.int .i64 stage)).setCell ⟨X + 2, 2, none⟩ (.int .i64 mode)).setCell ⟨X + 2, 3, none⟩ (.string data)).setCell ⟨X + 2, 4, none⟩ (.int .i64 st)).setCell ⟨X + 2, 5, none⟩ (.int .i64 ss)) (X + 2) 60 #[.string path, .int .i64 stage, .int .i64 mode, .string data, .int .i64 st, .int .i64 ss] from by simpa using ((((((K3.out.set_ 0 (.string path)).set_ 1 (.int .i64 stage)).set_ 2 (.int .i64 mode)).set_ 3 (.string data)).set_ 4 (.int .i64 st)).set_ 5 (.int .i64 ss)))
    have HB3 := Lib.hid ((((((HB2.out.setCell (p := ⟨X + 2, 0, none⟩) (by have := HX.out; show w.heap.size ≤ X + 2; omega) (.string path)).setCell (p := ⟨X + 2, 1, none⟩) (by have := HX.out; show w.heap.size ≤ X + 2; omega) (.int .i64 stage)).setCell (p := ⟨X + 2, 2, none⟩) (by have := HX.out; show w.heap.size ≤ X + 2; omega) (.int .i64 mode)).setCell (p := ⟨X + 2, 3, none⟩) (by have := HX.out; show w.heap.size ≤ X + 2; omega) (.string data)).setCell (p := ⟨X + 2, 4, none⟩) (by have := HX.out; show w.heap.size ≤ X + 2; omega) (.int .i64 st)).setCell (p := ⟨X + 2, 5, none⟩) (by have := HX.out; show w.heap.size ≤ X + 2; omega) (.int .i64 ss))
    go_wp2_with fail
    exact bodyPost_ret (results_cell_row (fn := Tryd.f30) rfl _ _ (X + 2) 60 #[.string path, .int .i64 stage, .int .i64 mode, .string data, .int .i64 st, .int .i64 ss] (0, 0) _ rfl E.out Tryd.underlying60 rfl (by kernel_rfl)) rfl ⟨rfl, HB3.out⟩

set_option maxRecDepth 100000 in
set_option maxHeartbeats 4000000 in
theorem stat_yes {w : World} {F bf bs n : Nat} {T S : Tr} {vp : Value} {q now ino ops : Int} {armed : Int} {vk : Value} (h : FsIs w F bf bs n T S vp q now ino ops false armed vk) (p : ByteArray) (hp : p.size ≤ 1000) {f : FV} (hf : getT T p = some f) :
    Calls Tryd.prog 22 #[.pointer (some ⟨F, 0, none⟩), .string p] w fun e w' => e = .returned (.tuple #[stV (f.data.size : Int) f.time f.inode f.mode, .int .i64 0]) ∧ Below w.heap.size w w' := by
  have d1 := (Below.refl w.heap.size w).alloc (Nat.le_refl _) (.cells #[.int .i64 0, .int .i64 0, .int .i64 0, .int .i64 0] 51)
  have FS1 := Lib.hid (h.below d1)
  have K1 := Lib.hid (Blk.new w 51 #[.int .i64 0, .int .i64 0, .int .i64 0, .int .i64 0])
  have D1 := Lib.hid d1
  have x7 := FS1.out.x.cell 7
  have x0 := FS1.out.x.cell 0
  have LK := Lib.hid (lacks_any _ bf n T p FS1.out.f (by unfold maxLen; omega))
  rw [hf] at LK
  have HF := Lib.hid hf
  clear h d1 hf
  go_enter Tryd.func22, Tryd.ntmps22
  go_wp2_with fail
  refine LK.out.mono ?_
  rintro e w2 ⟨rfl, b2⟩
  have FS2 := Lib.hid (FS1.out.below b2)
  have K2 := Lib.hid (K1.out.below b2 K1.out.lt)
  have D2 := Lib.hid (D1.out.trans (b2.mono D1.out.size))
  have y0 := FS2.out.x.cell 0
  have lk := FS2.out.f.look (p := p) (by unfold maxLen; omega)
  rw [HF.out] at lk
  obtain ⟨m, t, i, s⟩ := f
  simp only [Option.getD, fV] at lk
  clear b2 LK x7 x0
  have hlt := K2.out.lt
  have r0 := K2.out.cell 0
  have r1 := K2.out.cell 1
  have r2 := K2.out.cell 2
  have r3 := K2.out.cell 3
  have q0 := K2.out.frozen 0
  have q1 := K2.out.frozen 1
  have q2 := K2.out.frozen 2
  have q3 := K2.out.frozen 3
  have E := Lib.hid (show Blk (((((w2.setCell ⟨w.heap.size, 0, none⟩ (.int .i64 (s.size : Int))).setCell ⟨w.heap.size, 1, none⟩ (.int .i64 t)).setCell ⟨w.heap.size, 2, none⟩ (.int .i64 i)).setCell ⟨w.heap.size, 3, none⟩ (.int .i64 m)).alloc (.cells #[.int .i64 m, .int .i64 t, .int .i64 i, .string s] 77)) w.heap.size 51 #[.int .i64 (s.size : Int), .int .i64 t, .int .i64 i, .int .i64 m] from by
    simpa using ((((K2.out.set_ 0 (.int .i64 (s.size : Int))).set_ 1 (.int .i64 t)).set_ 2 (.int .i64 i)).set_ 3 (.int .i64 m)).alloc (.cells #[.int .i64 m, .int .i64 t, .int .i64 i, .string s] 77))
  have HB := Lib.hid (((((D2.out.setCell (p := ⟨w.heap.size, 0, none⟩) (Nat.le_refl _) (.int .i64 (s.size : Int))).setCell (p := ⟨w.heap.size, 1, none⟩) (Nat.le_refl _) (.int .i64 t)).setCell (p := ⟨w.heap.size, 2, none⟩) (Nat.le_refl _) (.int .i64 i)).setCell (p := ⟨w.heap.size, 3, none⟩) (Nat.le_refl _) (.int .i64 m)).alloc (by simp; exact D2.out.size) (.cells #[.int .i64 m, .int .i64 t, .int .i64 i, .string s] 77))
  go_wp2_with fail
  exact bodyPost_ret (results_row_tmp (fn := Tryd.f22) rfl _ _ w.heap.size 51 #[.int .i64 (s.size : Int), .int .i64 t, .int .i64 i, .int .i64 m] (0, 0) _ rfl E.out Tryd.underlying51 rfl (by kernel_rfl)) rfl ⟨rfl, HB.out⟩
end Go.Proofs.YtcnmlgmlijgmhaaDoor
