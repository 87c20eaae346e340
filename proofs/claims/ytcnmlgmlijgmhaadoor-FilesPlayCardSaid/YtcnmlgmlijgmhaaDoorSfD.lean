/-
  simfs: fresh.
-/
import Derived.Test.YtcnmlgmlijgmhaaDoorSfC
import Derived.StillTailTactics
namespace Go.Proofs.YtcnmlgmlijgmhaaDoor
open Go Go.RowKit Go.Maps

/-- Bytes that stay what they are, whatever becomes of block F. -/
structure BytesOf (w : World) (F : Nat) (v : Value) (s : ByteArray) : Prop where
  form : ∃ A c, v = .slice A s.size c
  conv : ∀ w', w.grownBy w' (some F) → (convert 32 9 v).run Tryd.prog w' = .ok (.string s) w'
theorem grown_drew {w w' : World} {r : Option Nat} (h : w.grownBy w' r) : w.grownBy w'.drew r := ⟨h.os, h.tape, h.output, h.size, h.block⟩
def inoOf (T : Tr) (p : ByteArray) (ino : Int) : Int := if (getT T p).isSome then ((getT T p).getD noF).inode else ino + 1
def inoNew (T : Tr) (p : ByteArray) (ino : Int) : Int := if (getT T p).isSome then ino else ino + 1
theorem FsIs.grownF {w w' : World} {F bf bs n : Nat} {T S : Tr} {vp : Value} {q now ino ops : Int} {off : Bool} {armed : Int} {vk : Value} (h : FsIs w F bf bs n T S vp q now ino ops off armed vk) (hg : w.grownBy w' (some F)) {ino' : Int}
    (hx : Blk w' F 74 #[.map (some bf), .map (some bs), vp, .int .i64 q, .int .i64 now, .int .i64 ino', .int .i64 ops, .bool off, .int .i64 armed, vk]) : FsIs w' F bf bs n T S vp q now ino' ops off armed vk :=
  ⟨hx, h.f.kept hg (fun e => blk_tree_ne h.x h.f (Option.some.inj e).symm), h.s.kept hg (fun e => blk_tree_ne h.x h.s (Option.some.inj e).symm), h.ne⟩

theorem grown_cellF (w : World) (g p : Nat) (u : Value) : w.grownBy (w.setCell ⟨g, p, none⟩ u) (some g) :=
  ⟨rfl, rfl, rfl, by simp, fun k _ hk => Below.heap_setCell _ _ _ _ (fun e => hk (by rw [e]))⟩
theorem fresh_end {w WX : World} {F bf bs n : Nat} {T S : Tr} {vp : Value} {q now ino ino' ops : Int} {off : Bool} {armed : Int} {vk : Value} {x0 x1 x2 x3 : Value} (h : FsIs w F bf bs n T S vp q now ino ops off armed vk) (g : FsIs WX F bf bs n T S vp q now ino' ops off armed vk)
    (hg : w.grownBy WX (some F)) (k : Blk WX w.heap.size 77 #[x0, x1, x2, x3]) (m t i : Value) (s : Value) :
    FsIs ((((WX.drew.setCell ⟨w.heap.size, 0, none⟩ m).setCell ⟨w.heap.size, 1, none⟩ t).setCell ⟨w.heap.size, 2, none⟩ i).setCell ⟨w.heap.size, 3, none⟩ s) F bf bs n T S vp q now ino' ops off armed vk ∧
    w.grownBy ((((WX.drew.setCell ⟨w.heap.size, 0, none⟩ m).setCell ⟨w.heap.size, 1, none⟩ t).setCell ⟨w.heap.size, 2, none⟩ i).setCell ⟨w.heap.size, 3, none⟩ s) (some F) ∧
    Blk ((((WX.drew.setCell ⟨w.heap.size, 0, none⟩ m).setCell ⟨w.heap.size, 1, none⟩ t).setCell ⟨w.heap.size, 2, none⟩ i).setCell ⟨w.heap.size, 3, none⟩ s) w.heap.size 77 #[m, t, i, s] := by
  have hne : F ≠ w.heap.size := by have := h.x.lt; omega
  have step : ∀ {A : World} (_ : w.grownBy A (some F)) (j : Nat) (u : Value), w.grownBy (A.setCell ⟨w.heap.size, j, none⟩ u) (some F) := fun ha j u => ha.andThen (grown_cellF _ _ _ _) (row := some F) (fun z hz => by cases hz; exact .inl (Nat.le_refl _))
  have G := step (step (step (step (grown_drew hg) 0 m) 1 t) 2 i) 3 s
  have kd : Blk WX.drew w.heap.size 77 #[x0, x1, x2, x3] := k
  have gx : Blk WX.drew F 74 #[.map (some bf), .map (some bs), vp, .int .i64 q, .int .i64 now, .int .i64 ino', .int .i64 ops, .bool off, .int .i64 armed, vk] := g.x
  exact ⟨h.grownF G ((((gx.far (p := ⟨w.heap.size, 0, none⟩) hne m).far (p := ⟨w.heap.size, 1, none⟩) hne t).far (p := ⟨w.heap.size, 2, none⟩) hne i).far (p := ⟨w.heap.size, 3, none⟩) hne s), G, by simpa using (((kd.set_ 0 m).set_ 1 t).set_ 2 i).set_ 3 s⟩
set_option maxRecDepth 100000 in
theorem field_ino (m t i : Int) (s : ByteArray) (w : World) : (Instr.field 77 (.agg #[.int .i64 m, .int .i64 t, .int .i64 i, .string s]) 2).run Tryd.prog w = .ok (.int .i64 i) w := by first | rfl | kernel_rfl
set_option maxRecDepth 100000 in
theorem field_data (m t i : Int) (s : ByteArray) (w : World) : (Instr.field 77 (.agg #[.int .i64 m, .int .i64 t, .int .i64 i, .string s]) 3).run Tryd.prog w = .ok (.string s) w := by first | rfl | kernel_rfl
set_option maxRecDepth 100000 in
set_option maxHeartbeats 4000000 in
theorem fresh_any {w : World} {F bf bs n : Nat} {T S : Tr} {vp : Value} {q now ino ops : Int} {off : Bool} {armed : Int} {vk : Value} (h : FsIs w F bf bs n T S vp q now ino ops off armed vk) (p : ByteArray) (mode : Int) (v : Value) (s : ByteArray) (hp : p.size ≤ maxLen)
    (hv : BytesOf w F v s) (h0 : 0 ≤ ino) (h1 : ino ≤ 1000000000) :
    Calls Tryd.prog 64 #[.pointer (some ⟨F, 0, none⟩), .string p, .int .i64 mode, v] w fun e w' => e = .returned (fV ⟨mode, now, inoOf T p ino, s⟩) ∧ FsIs w' F bf bs n T S vp q now (inoNew T p ino) ops off armed vk ∧ w.grownBy w' (some F) := by
  have HFS := Lib.hid h
  have HV := Lib.hid hv
  have G1 := World.grownBy_alloc w (.cells #[.int .i64 0, .int .i64 0, .int .i64 0, .string ⟨#[]⟩] 77) (some F)
  have K1 := Blk.new w 77 #[.int .i64 0, .int .i64 0, .int .i64 0, .string ⟨#[]⟩]
  have FS1 := h.grownF G1 (h.x.alloc _)
  have x0 := FS1.x.cell 0
  have lk1 := FS1.f.look hp
  have lk2 := FS1.f.look_ok hp
  have HG1 := Lib.hid G1
  have HK1 := Lib.hid K1
  have HFS1 := Lib.hid FS1
  obtain ⟨f0, hf0⟩ : ∃ f, f = (getT T p).getD noF := ⟨_, rfl⟩
  rw [← hf0] at lk1 lk2
  have HF0 := Lib.hid hf0
  unfold fV at lk1 lk2
  have fi := fun W => field_ino f0.mode f0.time f0.inode f0.data W
  clear h hv G1 K1 FS1 hf0
  cases hs : (getT T p).isSome with
  | true =>
    rw [hs] at lk2
    have HS := Lib.hid hs
    clear hs
    go_enter Tryd.func64, Tryd.ntmps64
    have G2 := Lib.hid (HG1.out.andThen (World.grownBy_alloc _ (.cells #[.int .i64 f0.mode, .int .i64 f0.time, .int .i64 f0.inode, .string f0.data] 77) (some F)) (row := some F) (fun j hj => .inr hj))
    have K2 := Lib.hid (HK1.out.alloc (.cells #[.int .i64 f0.mode, .int .i64 f0.time, .int .i64 f0.inode, .string f0.data] 77))
    have FS2 := Lib.hid (HFS1.out.grownF (World.grownBy_alloc _ (.cells #[.int .i64 f0.mode, .int .i64 f0.time, .int .i64 f0.inode, .string f0.data] 77) (some F)) (HFS1.out.x.alloc _))
    go_upto_region 6 with fail
    generalize hWX : (w.alloc (.cells #[.int .i64 0, .int .i64 0, .int .i64 0, .string ⟨#[]⟩] 77)).alloc (.cells #[.int .i64 f0.mode, .int .i64 f0.time, .int .i64 f0.inode, .string f0.data] 77) = WX at *
    clear hWX lk1 lk2 fi x0
    have GX := G2
    have FSX := FS2
    have c4 := FSX.out.x.cell 4
    have z0 : WX.drew.cell? ⟨F, 4, none⟩ = some (.int .i64 now) ∧ (convert 32 9 v).run Tryd.prog WX.drew = .ok (.string s) WX.drew := ⟨c4, HV.out.conv _ (grown_drew GX.out)⟩
    clear c4
    have KD : Blk WX.drew w.heap.size 77 #[.int .i64 0, .int .i64 0, .int .i64 0, .string ⟨#[]⟩] := K2.out
    have r0 := KD.cell 0
    have r1 := KD.cell 1
    have r2 := KD.cell 2
    have r3 := KD.cell 3
    have q0 := KD.frozen 0
    have q1 := KD.frozen 1
    have q2 := KD.frozen 2
    have q3 := KD.frozen 3
    have HKD := Lib.hid KD
    clear KD
    have z1 := z0.1
    have z2 := z0.2
    clear z0
    obtain ⟨WD, hWD⟩ : ∃ WD, WX.drew = WD := ⟨_, rfl⟩
    rw [hWD] at z1 z2 r0 r1 r2 r3 q0 q1 q2 q3 HKD
    go_still_tail 9, (by kernel_rfl)
    change wpList _ _ _ _ _ WX.drew
    rw [hWD]
    go_wp2_with fail
    rw [← hWD]
    obtain ⟨E1, E2, E3⟩ := fresh_end HFS.out FSX.out GX.out K2.out (.int .i64 mode) (.int .i64 now) (.int .i64 f0.inode) (.string s)
    refine bodyPost_ret (results_cell_row (fn := Tryd.f64) rfl _ _ w.heap.size 77 #[.int .i64 mode, .int .i64 now, .int .i64 f0.inode, .string s] (0, 0) _ rfl E3 Tryd.underlying77 rfl (by kernel_rfl)) rfl ⟨?_, ?_, E2⟩
    · unfold fV inoOf; rw [HS.out]; rw [← HF0.out]; rfl
    · unfold inoNew; rw [HS.out]; exact E1
  | false =>
    rw [hs] at lk2
    have HS := Lib.hid hs
    clear hs
    go_enter Tryd.func64, Tryd.ntmps64
    have G2 := Lib.hid (HG1.out.andThen (World.grownBy_alloc _ (.cells #[.int .i64 f0.mode, .int .i64 f0.time, .int .i64 f0.inode, .string f0.data] 77) (some F)) (row := some F) (fun j hj => .inr hj))
    have K2 := Lib.hid (HK1.out.alloc (.cells #[.int .i64 f0.mode, .int .i64 f0.time, .int .i64 f0.inode, .string f0.data] 77))
    have FS2 := Lib.hid (HFS1.out.grownF (World.grownBy_alloc _ (.cells #[.int .i64 f0.mode, .int .i64 f0.time, .int .i64 f0.inode, .string f0.data] 77) (some F)) (HFS1.out.x.alloc _))
    have x5 := FS2.out.x.cell 5
    have y5 := FS2.out.x.frozen 5
    go_upto_region 6 with fail
    generalize hWX : (w.alloc (.cells #[.int .i64 0, .int .i64 0, .int .i64 0, .string ⟨#[]⟩] 77)).alloc (.cells #[.int .i64 f0.mode, .int .i64 f0.time, .int .i64 f0.inode, .string f0.data] 77) = WY at *
    clear hWX lk1 lk2 fi x0 x5 y5
    have GX := Lib.hid (G2.out.andThen (grown_cellF WY F 5 (.int .i64 (ino + 1))) (row := some F) (fun j hj => .inr hj))
    have FSX := Lib.hid (FS2.out.setIno (ino + 1))
    have K2 := Lib.hid (K2.out.far (p := ⟨F, 5, none⟩) (by have := HFS.out.x.lt; show w.heap.size ≠ F; omega) (.int .i64 (ino + 1)))
    generalize hWX : WY.setCell ⟨F, 5, none⟩ (.int .i64 (ino + 1)) = WX at *
    clear hWX
    have c4 := FSX.out.x.cell 4
    have z0 : WX.drew.cell? ⟨F, 4, none⟩ = some (.int .i64 now) ∧ (convert 32 9 v).run Tryd.prog WX.drew = .ok (.string s) WX.drew := ⟨c4, HV.out.conv _ (grown_drew GX.out)⟩
    clear c4
    have KD : Blk WX.drew w.heap.size 77 #[.int .i64 0, .int .i64 0, .int .i64 0, .string ⟨#[]⟩] := K2.out
    have r0 := KD.cell 0
    have r1 := KD.cell 1
    have r2 := KD.cell 2
    have r3 := KD.cell 3
    have q0 := KD.frozen 0
    have q1 := KD.frozen 1
    have q2 := KD.frozen 2
    have q3 := KD.frozen 3
    have HKD := Lib.hid KD
    clear KD
    have z1 := z0.1
    have z2 := z0.2
    clear z0
    obtain ⟨WD, hWD⟩ : ∃ WD, WX.drew = WD := ⟨_, rfl⟩
    rw [hWD] at z1 z2 r0 r1 r2 r3 q0 q1 q2 q3 HKD
    go_still_tail 9, (by kernel_rfl)
    change wpList _ _ _ _ _ WX.drew
    rw [hWD]
    go_wp2_with fail
    rw [← hWD]
    obtain ⟨E1, E2, E3⟩ := fresh_end HFS.out FSX.out GX.out K2.out (.int .i64 mode) (.int .i64 now) (.int .i64 (ino + 1)) (.string s)
    refine bodyPost_ret (results_cell_row (fn := Tryd.f64) rfl _ _ w.heap.size 77 #[.int .i64 mode, .int .i64 now, .int .i64 (ino + 1), .string s] (0, 0) _ rfl E3 Tryd.underlying77 rfl (by kernel_rfl)) rfl ⟨?_, ?_, E2⟩
    · unfold fV inoOf; rw [HS.out]; rfl
    · unfold inoNew; rw [HS.out]; exact E1
end Go.Proofs.YtcnmlgmlijgmhaaDoor
