/-
  simfs.step of any op.
-/
import Derived.Test.YtcnmlgmlijgmhaaDoorSfU
import Derived.Deep.CutBlock
namespace Go.Proofs.YtcnmlgmlijgmhaaDoor
open Go Go.RowKit Go.Shelf Go.Maps

/-- Bytes that stay what they are, whatever becomes of the blocks of X. -/
structure BytesIn (w : World) (X : Nat → Prop) (v : Value) (s : ByteArray) : Prop where
  form : ∃ A c, v = .slice A s.size c
  conv : ∀ w', Turns w w' X → (convert 32 9 v).run Tryd.prog w' = .ok (.string s) w'
theorem BytesIn.of {w w' : World} {X : Nat → Prop} {F : Nat} {v : Value} {s : ByteArray} (h : BytesIn w X v s) (ht : Turns w w' X) (hF : X F) : BytesOf w' F v s := ⟨h.form, fun _ hg => h.conv _ (ht.trans (Turns.of_grown hg hF))⟩
theorem BytesIn.turns {w w' : World} {X : Nat → Prop} {v : Value} {s : ByteArray} (h : BytesIn w X v s) (ht : Turns w w' X) : BytesIn w' X v s := ⟨h.form, fun _ hg => h.conv _ (ht.trans hg)⟩
section
variable {w w' : World} {B N : Nat} {L : Loc} {D : DK}
theorem DiskIs.setArmed (h : DiskIs w B L N D) (a : Int) : DiskIs (w.setCell ⟨L.F, 8, none⟩ (.int .i64 a)) B L N { D with armed := a } :=
  ⟨h.fs.setArmed a, h.ps.kept (grown_cellF w L.F 8 _) (Or.inr (own_blk_ne h.ps h.fs.x (by decide))), h.ks.kept (grown_cellF w L.F 8 _) (Or.inr (own_blk_ne h.ks h.fs.x (by decide))), h.lo, h.sT, h.sS, h.so⟩
theorem DiskIs.setOps (h : DiskIs w B L N D) (a : Int) : DiskIs (w.setCell ⟨L.F, 6, none⟩ (.int .i64 a)) B L N { D with ops := a } :=
  ⟨h.fs.setOps a, h.ps.kept (grown_cellF w L.F 6 _) (Or.inr (own_blk_ne h.ps h.fs.x (by decide))), h.ks.kept (grown_cellF w L.F 6 _) (Or.inr (own_blk_ne h.ks h.fs.x (by decide))), h.lo, h.sT, h.sS, h.so⟩
theorem DiskIs.setOff (h : DiskIs w B L N D) (a : Bool) : DiskIs (w.setCell ⟨L.F, 7, none⟩ (.bool a)) B L N { D with off := a } :=
  ⟨h.fs.setOff a, h.ps.kept (grown_cellF w L.F 7 _) (Or.inr (own_blk_ne h.ps h.fs.x (by decide))), h.ks.kept (grown_cellF w L.F 7 _) (Or.inr (own_blk_ne h.ks h.fs.x (by decide))), h.lo, h.sT, h.sS, h.so⟩
theorem DiskIs.setNow (h : DiskIs w B L N D) (a : Int) : DiskIs (w.setCell ⟨L.F, 4, none⟩ (.int .i64 a)) B L N { D with now := a } :=
  ⟨h.fs.setNow a, h.ps.kept (grown_cellF w L.F 4 _) (Or.inr (own_blk_ne h.ps h.fs.x (by decide))), h.ks.kept (grown_cellF w L.F 4 _) (Or.inr (own_blk_ne h.ks h.fs.x (by decide))), h.lo, h.sT, h.sS, h.so⟩
theorem DiskIs.alloc (h : DiskIs w B L N D) (o : Obj) : DiskIs (w.alloc o) B L N D := h.below ((Below.refl _ w).alloc (Nat.le_refl _) o)
theorem Next.cell (w : World) (L : Loc) (j : Nat) (u : Value) : Next w L (w.setCell ⟨L.F, j, none⟩ u) L := ⟨rfl, fun _ h => .inl h, Turns.of_grown (grown_cellF w L.F j u) (.inl rfl)⟩
theorem Next.of_below (L : Loc) (h : Below w.heap.size w w') : Next w L w' L := ⟨rfl, fun _ h => .inl h, Turns.of_below h⟩
theorem Next.alloc (w : World) (L : Loc) (o : Obj) : Next w L (w.alloc o) L := Next.of_below L ((Below.refl _ w).alloc (Nat.le_refl _) o)
end

set_option maxRecDepth 100000 in
set_option maxHeartbeats 4000000 in
theorem step_down {w : World} {B N : Nat} {L : Loc} {D : DK} (h : DiskIs w B L N D) (k : Int) (fr p : ByteArray) (m t i : Int) (s0 : ByteArray) (mode : Int) (v : Value) (ha : D.armed = 1) (hN : N ≤ 1000000) (hp : D.ps.length ≤ 100000) (hB : B ≤ w.heap.size) :
    Calls Tryd.prog 56 #[.pointer (some ⟨L.F, 0, none⟩), .agg (opC k fr p m t i s0), .int .i64 mode, v] w fun e w' => ∃ L', e = .returned (.int .i64 13) ∧ DiskIs w' B L' (N + D.ps.length) (cutD D D.ks) ∧ Next w L w' L' := by
  have h1 := (h.alloc (.cells (opC k fr p m t i s0) 80))
  have h2 := h1.setArmed 0
  have c8 := h1.fs.x.cell 8
  have f8 := h1.fs.x.frozen 8
  have d8 := h2.fs.x.cell 8
  have d9 := h2.fs.x.cell 9
  have NX := Lib.hid ((Next.alloc w L (.cells (opC k fr p m t i s0) 80)).trans (Next.cell _ L 8 (.int .i64 0)))
  have CT := Lib.hid (cut_any h2 L.vk D.ks (fun w' hg => Reads.of_own cB_len (h2.ks.kept hg (Or.inr (own_tree_ne h2.ks h2.fs.s)))) hN hp (Nat.le_trans hB (by simp)))
  rw [ha] at c8
  clear h h1 h2 ha
  go_enter Tryd.func56, Tryd.ntmps56
  go_wp2_with (go_at_call 13; refine CT.out.mono ?_; rintro e w2 ⟨L', rfl, H', N'⟩; have HH := Lib.hid H'; have HN' := Lib.hid (NX.out.trans N'); clear H' N')
  go_ret
  exact ⟨L', rfl, HH.out, HN'.out⟩
/-! ### Not the last op -/
theorem own_own_ne {w : World} {B B' k k' n n' : Nat} {e e' : TypeId} {v v' : Value} {xs xs' : List Value} (h : w.ownsRow B e k v n xs) (g : w.ownsRow B' e' k' v' n' xs') (hne : e ≠ e') : v.ownBlock ≠ v'.ownBlock ∨ v.ownBlock = none := by
  rcases h.2 with ⟨rfl, _⟩ | ⟨g0, cap, cur, rfl, _, hb, _⟩
  · exact .inr rfl
  · refine .inl fun e => ?_
    exact own_blk_ne g (show Blk w g0 _ cur from hb) (fun e => hne e.symm) e.symm
set_option maxRecDepth 100000 in
set_option maxHeartbeats 8000000 in
theorem step_up0n {w : World} {B N : Nat} {L : Loc} {D : DK} (h : DiskIs w B L N D) (fr p : ByteArray) (m t i : Int) (s0 : ByteArray) (mode : Int) (v : Value) (s : ByteArray) (hv : BytesIn w L.foot v s) (ha : D.armed = 0) (hfr : fr.size ≤ 1000) (hpp : p.size ≤ 1000) (hN : N ≤ 1000000) (hp : D.ps.length ≤ 100000) (hB : B ≤ w.heap.size) (h0 : 0 ≤ D.ino) (h1 : D.ino ≤ 1000000) (o0 : 0 ≤ D.ops) (o1 : D.ops ≤ 1000000) :
    Calls Tryd.prog 56 #[.pointer (some ⟨L.F, 0, none⟩), .agg (opC 0 fr p m t i s0), .int .i64 mode, v] w fun e w' => ∃ L', e = .returned (.int .i64 0) ∧ DiskIs w' B L' (N + 1) { D with T := doO D.T (0, fr, p, mode, D.now, inoOf D.T p D.ino, s), ps := D.ps ++ [(0, fr, p, mode, D.now, inoOf D.T p D.ino, s)], ino := inoNew D.T p D.ino, ops := D.ops + 1, armed := 0 } ∧ Next w L w' L' := by
  have hX0 := h.alloc (.cells (opC 0 fr p m t i s0) 80)
  have hd1 := hX0
  have NX := Next.alloc w L (.cells (opC 0 fr p m t i s0) 80)
  have X0 := Blk.new w 80 (opC 0 fr p m t i s0)
  obtain ⟨F, bf, bs, vp, vk⟩ := L
  obtain ⟨T, S, ps, q, now, ino, ops, off, armed, ks⟩ := D
  dsimp only at ha hp h0 h1 o0 o1 hd1 NX X0 hv ⊢
  have c8 := hX0.fs.x.cell 8
  have f8 := hX0.fs.x.frozen 8
  have HLO := Lib.hid h.lo
  have HST := Lib.hid h.sT
  have HSS := Lib.hid h.sS
  have HSO := Lib.hid h.so
  have HB := Lib.hid hB
  have HN := Lib.hid (And.intro hN (And.intro hp (And.intro o0 o1)))
  have HI := Lib.hid (And.intro h0 h1)
  have HFR := Lib.hid (And.intro hfr hpp)
  have HV := Lib.hid hv
  dsimp only at HLO HST HSS HSO
  have FNE : Hid (w.heap.size ≠ F) := Lib.hid (by have := h.fs.x.lt; dsimp only at this; omega)
  have ONX := Lib.hid (show vp.ownBlock ≠ some w.heap.size from fun e => by have := (h.ps.lt _ e).2; omega)
  have HD1 := Lib.hid hd1
  have HNX := Lib.hid NX
  have HX0 := Lib.hid X0
  obtain ⟨i1, hi1⟩ : ∃ i1, i1 = inoOf T p ino := ⟨_, rfl⟩
  obtain ⟨ino', hino⟩ : ∃ i1, i1 = inoNew T p ino := ⟨_, rfl⟩
  rw [← hi1, ← hino]
  have HI1 := Lib.hid hi1
  have HI2 := Lib.hid hino
  clear hi1 hino
  clear h hX0 hd1 NX X0 hN hp o0 o1 h0 h1 hfr hpp hB hv
  subst ha
  go_enter Tryd.func56, Tryd.ntmps56
  go_upto_region 6 with fail
  clear c8 f8
  generalize hW : w.alloc (.cells (opC 0 fr p m t i s0) 80) = W1 at *
  clear hW 
  obtain ⟨X, hX⟩ : ∃ X, X = w.heap.size := ⟨_, rfl⟩
  rw [← hX] at HX0 FNE ONX ⊢
  have HXS := Lib.hid hX
  clear hX
  have FR := Lib.hid (fresh_any HD1.out.fs p mode v s (by have := HFR.out.2; unfold maxLen; omega) (HV.out.of HNX.out.t (.inl rfl)) HI.out.1 (by have := HI.out.2; dsimp only; omega))
  have c0 := HX0.out.cell 0
  have c2 := HX0.out.cell 2
  go_wp2_with fail
  refine FR.out.mono ?_
  rintro e w2 ⟨rfl, FS2, G2⟩
  clear c0 c2
  unfold fV
  dsimp only at FS2 G2 ⊢
  rw [← HI2.out] at FS2
  rw [← HI1.out]
  have X2 : Blk w2 X 80 _ := HX0.out.grown G2 (fun e => FNE.out (Option.some.inj e))
  have r3 := X2.cell 3
  have r4 := X2.cell 4
  have r5 := X2.cell 5
  have r6 := X2.cell 6
  have q3 := X2.frozen 3
  have q4 := X2.frozen 4
  have q5 := X2.frozen 5
  have q6 := X2.frozen 6
  have HX2 := Lib.hid X2
  have F2 := Lib.hid FS2
  have HG2 := Lib.hid G2
  clear X2 FS2 G2 FR
  go_upto_region 8 with fail
  have nF := HX2.out.ne_ F2.out.x (by decide)
  have nb := blk_tree_ne HX2.out F2.out.f
  have ns := blk_tree_ne HX2.out F2.out.s
  have F3 := Lib.hid ((((F2.out.farSet 3 (.int .i64 mode) nF nb ns).farSet 4 (.int .i64 now) nF nb ns).farSet 5 (.int .i64 i1) nF nb ns).farSet 6 (.string s) nF nb ns)
  have X3 := Lib.hid (show Blk ((((w2.setCell ⟨X, 3, none⟩ (.int .i64 mode)).setCell ⟨X, 4, none⟩ (.int .i64 now)).setCell ⟨X, 5, none⟩ (.int .i64 i1)).setCell ⟨X, 6, none⟩ (.string s)) X 80 #[.int .i64 0, .string fr, .string p, .int .i64 mode, .int .i64 now, .int .i64 i1, .string s] from by
    simpa using (((HX2.out.set_ 3 (.int .i64 mode)).set_ 4 (.int .i64 now)).set_ 5 (.int .i64 i1)).set_ 6 (.string s))
  have O2 := HD1.out.ps.kept HG2.out (Or.inr (own_blk_ne HD1.out.ps HD1.out.fs.x (by decide)))
  have V2 := HD1.out.ks.kept HG2.out (Or.inr (own_blk_ne HD1.out.ks HD1.out.fs.x (by decide)))
  have on : vp.ownBlock = none ∨ vp.ownBlock ≠ some X := Or.inr ONX.out
  have vn : vk.ownBlock = none ∨ vk.ownBlock ≠ some X := Or.inr (own_blk_ne HD1.out.ks HX0.out (by decide))
  have O3 := Lib.hid ((((O2.kept (grown_cellF _ X 3 (.int .i64 mode)) on).kept (grown_cellF _ X 4 (.int .i64 now)) on).kept (grown_cellF _ X 5 (.int .i64 i1)) on).kept (grown_cellF _ X 6 (.string s)) on)
  have V3 := Lib.hid ((((V2.kept (grown_cellF _ X 3 (.int .i64 mode)) vn).kept (grown_cellF _ X 4 (.int .i64 now)) vn).kept (grown_cellF _ X 5 (.int .i64 i1)) vn).kept (grown_cellF _ X 6 (.string s)) vn)
  have tX : ∀ (a : World) (j : Nat) (u : Value), Turns w a (Loc.foot ⟨F, bf, bs, vp, vk⟩) → Turns w (a.setCell ⟨X, j, none⟩ u) (Loc.foot ⟨F, bf, bs, vp, vk⟩) := fun a j u ha => ⟨ha.os, ha.tape, ha.output, Nat.le_trans ha.size (by simp), fun k hk hx => (Below.heap_setCell _ _ _ _ (fun e => by have := HXS.out; dsimp only at e; omega)).trans (ha.block k hk hx)⟩
  have D3 := Lib.hid (tX _ 6 (.string s) (tX _ 5 (.int .i64 i1) (tX _ 4 (.int .i64 now) (tX _ 3 (.int .i64 mode) (HNX.out.t.trans (Turns.of_grown HG2.out (.inl rfl)))))))
  obtain ⟨W3, hW3⟩ : ∃ W3, W3 = (((w2.setCell ⟨X, 3, none⟩ (.int .i64 mode)).setCell ⟨X, 4, none⟩ (.int .i64 now)).setCell ⟨X, 5, none⟩ (.int .i64 i1)).setCell ⟨X, 6, none⟩ (.string s) := ⟨_, rfl⟩
  rw [← hW3] at F3 X3 O3 D3 V3 ⊢
  clear hW3 O2 V2 on vn tX nF nb ns HX2 F2 HG2 r3 r4 r5 r6 q3 q4 q5 q6 HD1 HX0 HNX FNE
  have HOK := Lib.hid (show okO (0, fr, p, mode, now, i1, s) from ⟨.inl rfl, HFR.out.1, HFR.out.2⟩)
  have z0 : W3.drew.cell? ⟨F, 0, none⟩ = some (.map (some bf)) ∧ W3.drew.cell? ⟨X, 0, none⟩ = some (.int .i64 0) ∧ W3.drew.cell? ⟨X, 1, none⟩ = some (.string fr) ∧ W3.drew.cell? ⟨X, 2, none⟩ = some (.string p) ∧ W3.drew.cell? ⟨X, 3, none⟩ = some (.int .i64 mode) ∧ W3.drew.cell? ⟨X, 4, none⟩ = some (.int .i64 now) ∧ W3.drew.cell? ⟨X, 5, none⟩ = some (.int .i64 i1) ∧ W3.drew.cell? ⟨X, 6, none⟩ = some (.string s) :=
    ⟨F3.out.x.cell 0, X3.out.cell 0, X3.out.cell 1, X3.out.cell 2, X3.out.cell 3, X3.out.cell 4, X3.out.cell 5, X3.out.cell 6⟩
  have DW := Lib.hid (show Calls Tryd.prog 40 #[.map (some bf), .agg #[.int .i64 0, .string fr, .string p, .int .i64 mode, .int .i64 now, .int .i64 i1, .string s]] W3.drew fun e w'' => e = .returned (.tuple #[]) ∧ TreeIs w'' bf (N + 1) (doO T (0, fr, p, mode, now, i1, s)) ∧ W3.drew.grownBy w'' (some bf) from
    do_any W3.drew bf N T (0, fr, p, mode, now, i1, s) F3.out.f (by have := HN.out.1; unfold maxLen; omega) (by have := HOK.out.2.1; dsimp only at this ⊢; unfold maxLen; omega) (by have := HOK.out.2.2; dsimp only at this ⊢; unfold maxLen; omega) HOK.out.1)
  have XB := Lib.hid (blk_tree_ne X3.out F3.out.f)
  have FB := Lib.hid (blk_tree_ne F3.out.x F3.out.f)
  go_region_held3 (fun w' => w'.cell? ⟨F, 0, none⟩ = some (.map (some bf)) ∧ w'.cell? ⟨X, 0, none⟩ = some (.int .i64 0) ∧ w'.cell? ⟨X, 1, none⟩ = some (.string fr) ∧ w'.cell? ⟨X, 2, none⟩ = some (.string p) ∧ w'.cell? ⟨X, 3, none⟩ = some (.int .i64 mode) ∧ w'.cell? ⟨X, 4, none⟩ = some (.int .i64 now) ∧ w'.cell? ⟨X, 5, none⟩ = some (.int .i64 i1) ∧ w'.cell? ⟨X, 6, none⟩ = some (.string s))
    (first | exact z0 | exact z6)
    ((go_at_call 40; (with_reducible refine DW.out.mono ?_); rintro e w6 ⟨rfl, T6, G5⟩; have G6 : W3.grownBy w6 (some bf) := ⟨G5.os, G5.tape, G5.output, G5.size, G5.block⟩; have X6 : Blk w6 X 80 _ := X3.out.grown G6 (fun e => XB.out (Option.some.inj e)); have K6 : Blk w6 F 74 _ := F3.out.x.grown G6 (fun e => FB.out (Option.some.inj e)); have z6 := And.intro (K6.cell 0) (And.intro (X6.cell 0) (And.intro (X6.cell 1) (And.intro (X6.cell 2) (And.intro (X6.cell 3) (And.intro (X6.cell 4) (And.intro (X6.cell 5) (X6.cell 6)))))))))
  have O6 := Lib.hid (show w6.ownsRow B 80 7 vp ps.length (ps.flatMap cO) from O3.out.kept G6 (Or.inr (own_tree_ne O3.out F3.out.f)))
  have V6 := Lib.hid (show w6.ownsRow B 4 1 vk ks.length (ks.flatMap cB) from V3.out.kept G6 (Or.inr (own_tree_ne V3.out F3.out.f)))
  obtain ⟨T', hT'⟩ : ∃ T', T' = doO T (0, fr, p, mode, now, i1, s) := ⟨_, rfl⟩
  have HT' := Lib.hid hT'
  rw [← hT'] at T6
  have F6 := Lib.hid (show FsIs w6 F bf bs (N + 1) T' S vp q now ino' ops off 0 vk from ⟨K6, T6, (F3.out.s.kept G6 (fun e => F3.out.ne (Option.some.inj e).symm)).mono (Nat.le_succ _), F3.out.ne⟩)
  have HX6 := Lib.hid X6
  have D6 := Lib.hid (D3.out.trans (Turns.of_grown (X := Loc.foot ⟨F, bf, bs, vp, vk⟩) G6 (.inr (.inl rfl))))
  clear z0 z6 G5 G6 T6 X6 K6 DW XB FB F3 X3 O3 D3 V3 hT'
  obtain ⟨i0, hi, hz0, hz1, hz2⟩ := info_parts opInfo
  have ZZ := Lib.hid fun W (h2 : W.cell? ⟨F, 2, none⟩ = some vp) (hx : Blk W X 80 #[.int .i64 0, .string fr, .string p, .int .i64 mode, .int .i64 now, .int .i64 i1, .string s]) => (⟨h2, hx.cell 0, hx.cell 1, hx.cell 2, hx.cell 3, hx.cell 4, hx.cell 5, hx.cell 6⟩ : W.cell? ⟨F, 2, none⟩ = some vp ∧ W.cell? ⟨X, 0, none⟩ = some (.int .i64 0) ∧ W.cell? ⟨X, 1, none⟩ = some (.string fr) ∧ W.cell? ⟨X, 2, none⟩ = some (.string p) ∧ W.cell? ⟨X, 3, none⟩ = some (.int .i64 mode) ∧ W.cell? ⟨X, 4, none⟩ = some (.int .i64 now) ∧ W.cell? ⟨X, 5, none⟩ = some (.int .i64 i1) ∧ W.cell? ⟨X, 6, none⟩ = some (.string s))
  have z0 := ZZ.out w6.drew (F6.out.x.cell 2) HX6.out
  have z7 := ZZ.out (w6.drew.alloc (.cells #[.int .i64 0, .string fr, .string p, .int .i64 mode, .int .i64 now, .int .i64 i1, .string s] 80)) (((show Blk w6.drew F 74 _ from F6.out.x).alloc (.cells #[.int .i64 0, .string fr, .string p, .int .i64 mode, .int .i64 now, .int .i64 i1, .string s] 80)).cell 2) ((show Blk w6.drew X 80 _ from HX6.out).alloc (.cells #[.int .i64 0, .string fr, .string p, .int .i64 mode, .int .i64 now, .int .i64 i1, .string s] 80))
  have KF7 := Lib.hid ((show Blk w6.drew F 74 _ from F6.out.x).alloc (.cells #[.int .i64 0, .string fr, .string p, .int .i64 mode, .int .i64 now, .int .i64 i1, .string s] 80))
  have KX7 := Lib.hid ((show Blk w6.drew X 80 _ from HX6.out).alloc (.cells #[.int .i64 0, .string fr, .string p, .int .i64 mode, .int .i64 now, .int .i64 i1, .string s] 80))
  have KF9 := Lib.hid (show Blk (w6.alloc (.cells #[.int .i64 0, .string fr, .string p, .int .i64 mode, .int .i64 now, .int .i64 i1, .string s] 80)).drew F 74 _ from F6.out.x.alloc (.cells #[.int .i64 0, .string fr, .string p, .int .i64 mode, .int .i64 now, .int .i64 i1, .string s] 80))
  have KX9 := Lib.hid (show Blk (w6.alloc (.cells #[.int .i64 0, .string fr, .string p, .int .i64 mode, .int .i64 now, .int .i64 i1, .string s] 80)).drew X 80 _ from HX6.out.alloc (.cells #[.int .i64 0, .string fr, .string p, .int .i64 mode, .int .i64 now, .int .i64 i1, .string s] 80))
  have hb6 : B ≤ w6.heap.size := Nat.le_trans HB.out D6.out.size
  have hk6 : ps.length ≤ 100000 := HN.out.2.1
  have O7 : (w6.drew.alloc (.cells #[.int .i64 0, .string fr, .string p, .int .i64 mode, .int .i64 now, .int .i64 i1, .string s] 80)).ownsRow B 80 7 vp ps.length (ps.flatMap cO) := (show w6.drew.ownsRow B 80 7 vp ps.length (ps.flatMap cO) from O6.out).alloc _
  have V7 : (w6.drew.alloc (.cells #[.int .i64 0, .string fr, .string p, .int .i64 mode, .int .i64 now, .int .i64 i1, .string s] 80)).ownsRow B 4 1 vk ks.length (ks.flatMap cB) := (show w6.drew.ownsRow B 4 1 vk ks.length (ks.flatMap cB) from V6.out).alloc _
  go_wp2
  have Fl : F < w6.drew.heap.size := F6.out.x.lt
  have Xl : X < w6.drew.heap.size := HX6.out.lt
  have g2 := z0.1
  have z9 := ZZ.out (w6.alloc (.cells #[.int .i64 0, .string fr, .string p, .int .i64 mode, .int .i64 now, .int .i64 i1, .string s] 80)) ((F6.out.x.alloc (.cells #[.int .i64 0, .string fr, .string p, .int .i64 mode, .int .i64 now, .int .i64 i1, .string s] 80)).cell 2) (HX6.out.alloc (.cells #[.int .i64 0, .string fr, .string p, .int .i64 mode, .int .i64 now, .int .i64 i1, .string s] 80))
  have g9 := z9.1
  have v0 := z9.2.1
  have v1 := z9.2.2.1
  have v2 := z9.2.2.2.1
  have v3 := z9.2.2.2.2.1
  have v4 := z9.2.2.2.2.2.1
  have v5 := z9.2.2.2.2.2.2.1
  have v6 := z9.2.2.2.2.2.2.2
  have O9 : (w6.alloc (.cells #[.int .i64 0, .string fr, .string p, .int .i64 mode, .int .i64 now, .int .i64 i1, .string s] 80)).drew.ownsRow B 80 7 vp ps.length (ps.flatMap cO) := (show w6.ownsRow B 80 7 vp ps.length (ps.flatMap cO) from O6.out).alloc _
  have V9 : (w6.alloc (.cells #[.int .i64 0, .string fr, .string p, .int .i64 mode, .int .i64 now, .int .i64 i1, .string s] 80)).drew.ownsRow B 4 1 vk ks.length (ks.flatMap cB) := (show w6.ownsRow B 4 1 vk ks.length (ks.flatMap cB) from V6.out).alloc _
  have x0 := z0.2.1
  have x1 := z0.2.2.1
  have x2 := z0.2.2.2.1
  have x3 := z0.2.2.2.2.1
  have x4 := z0.2.2.2.2.2.1
  have x5 := z0.2.2.2.2.2.2.1
  have x6 := z0.2.2.2.2.2.2.2
  go_region_law
    (first
    | (refine step_append_lies _ (by rfl) _ _ 72 (by rfl) B 80 i0 (.agg #[.int .i64 0, .string ⟨#[]⟩, .string ⟨#[]⟩, .int .i64 0, .int .i64 0, .int .i64 0, .string ⟨#[]⟩]) 7 80 Tryd.underlying72 hi hz0 hz1 hz2 rfl (by omega) _ ps.length _ (by rfl) O7
        ⟨w6.heap.size, 0, none⟩ 1 1 [.int .i64 0, .string fr, .string p, .int .i64 mode, .int .i64 now, .int .i64 i1, .string s] (by rfl) (by rfl) (World.news_of_block (cs := #[.int .i64 0, .string fr, .string p, .int .i64 mode, .int .i64 now, .int .i64 i1, .string s]) (t := 80) (fr := (0, 0)) (heap_alloc_new w6.drew _)) (by simp [Value.oneCell'])
        (by omega) (by unfold maxLen; omega) (by omega) (by simp; omega) (w6.heap.size + 1) (by simp) ?_; intro gg cap w8 own8 hg8 hat8 hlt8; have KF8 : Blk w8 F 74 _ := KF7.out.grown hg8 (fun e => own_blk_ne O7 KF7.out (by decide) e.symm); have f8 := KF8.frozen 2; have KX8 : Blk w8 X 80 _ := KX7.out.grown hg8 (fun e => ONX.out e.symm); have z8 := ZZ.out w8 (KF8.cell 2) KX8; have T8 := ((show TreeIs w6.drew bf (N + 1) T' from F6.out.f).alloc (.cells #[.int .i64 0, .string fr, .string p, .int .i64 mode, .int .i64 now, .int .i64 i1, .string s] 80)).kept hg8 (fun e => own_tree_ne O7 ((show TreeIs w6.drew bf (N + 1) T' from F6.out.f).alloc (.cells #[.int .i64 0, .string fr, .string p, .int .i64 mode, .int .i64 now, .int .i64 i1, .string s] 80)) e.symm); have S8 := ((show TreeIs w6.drew bs (N + 1) S from F6.out.s).alloc (.cells #[.int .i64 0, .string fr, .string p, .int .i64 mode, .int .i64 now, .int .i64 i1, .string s] 80)).kept hg8 (fun e => own_tree_ne O7 ((show TreeIs w6.drew bs (N + 1) S from F6.out.s).alloc (.cells #[.int .i64 0, .string fr, .string p, .int .i64 mode, .int .i64 now, .int .i64 i1, .string s] 80)) e.symm); have K8 := V7.kept hg8 (own_own_ne V7 O7 (by decide)).symm; have D8 := Turns.trans (X := Loc.foot ⟨F, bf, bs, vp, vk⟩) (Turns.trans D6.out (Turns.of_below ((Below.refl _ w6).alloc (Nat.le_refl _) (.cells #[.int .i64 0, .string fr, .string p, .int .i64 mode, .int .i64 now, .int .i64 i1, .string s] 80)))) (show Turns (w6.alloc (.cells #[.int .i64 0, .string fr, .string p, .int .i64 mode, .int .i64 now, .int .i64 i1, .string s] 80)) w8 (Loc.foot ⟨F, bf, bs, vp, vk⟩) from ⟨hg8.os, hg8.tape, hg8.output, hg8.size, fun k hk hx => hg8.block k hk (fun e => hx (.inr (.inr (.inr e.symm))))⟩))
    | (refine step_append_lies _ (by rfl) _ _ 72 (by rfl) B 80 i0 (.agg #[.int .i64 0, .string ⟨#[]⟩, .string ⟨#[]⟩, .int .i64 0, .int .i64 0, .int .i64 0, .string ⟨#[]⟩]) 7 80 Tryd.underlying72 hi hz0 hz1 hz2 rfl (by omega) _ ps.length _ (by rfl) O9
        ⟨w6.heap.size, 0, none⟩ 1 1 [.int .i64 0, .string fr, .string p, .int .i64 mode, .int .i64 now, .int .i64 i1, .string s] (by rfl) (by rfl) (World.news_of_block (cs := #[.int .i64 0, .string fr, .string p, .int .i64 mode, .int .i64 now, .int .i64 i1, .string s]) (t := 80) (fr := (0, 0)) (show (w6.alloc _).drew.heap[w6.heap.size]? = _ from heap_alloc_new w6 _)) (by simp [Value.oneCell'])
        (by omega) (by unfold maxLen; omega) (by omega) (by simp; omega) (w6.heap.size + 1) (by simp) ?_; intro gg cap w8 own8 hg8 hat8 hlt8; have KF8 : Blk w8 F 74 _ := KF9.out.grown hg8 (fun e => own_blk_ne O9 KF9.out (by decide) e.symm); have f8 := KF8.frozen 2; have KX8 : Blk w8 X 80 _ := KX9.out.grown hg8 (fun e => ONX.out e.symm); have z8 := ZZ.out w8 (KF8.cell 2) KX8; have T8 := (show TreeIs (w6.alloc (.cells #[.int .i64 0, .string fr, .string p, .int .i64 mode, .int .i64 now, .int .i64 i1, .string s] 80)).drew bf (N + 1) T' from F6.out.f.alloc (.cells #[.int .i64 0, .string fr, .string p, .int .i64 mode, .int .i64 now, .int .i64 i1, .string s] 80)).kept hg8 (fun e => own_tree_ne O9 (show TreeIs (w6.alloc (.cells #[.int .i64 0, .string fr, .string p, .int .i64 mode, .int .i64 now, .int .i64 i1, .string s] 80)).drew bf (N + 1) T' from F6.out.f.alloc (.cells #[.int .i64 0, .string fr, .string p, .int .i64 mode, .int .i64 now, .int .i64 i1, .string s] 80)) e.symm); have S8 := (show TreeIs (w6.alloc (.cells #[.int .i64 0, .string fr, .string p, .int .i64 mode, .int .i64 now, .int .i64 i1, .string s] 80)).drew bs (N + 1) S from F6.out.s.alloc (.cells #[.int .i64 0, .string fr, .string p, .int .i64 mode, .int .i64 now, .int .i64 i1, .string s] 80)).kept hg8 (fun e => own_tree_ne O9 (show TreeIs (w6.alloc (.cells #[.int .i64 0, .string fr, .string p, .int .i64 mode, .int .i64 now, .int .i64 i1, .string s] 80)).drew bs (N + 1) S from F6.out.s.alloc (.cells #[.int .i64 0, .string fr, .string p, .int .i64 mode, .int .i64 now, .int .i64 i1, .string s] 80)) e.symm); have K8 := V9.kept hg8 (own_own_ne V9 O9 (by decide)).symm; have D8 := Turns.trans (X := Loc.foot ⟨F, bf, bs, vp, vk⟩) (Turns.trans D6.out (Turns.of_below ((Below.refl _ w6).alloc (Nat.le_refl _) (.cells #[.int .i64 0, .string fr, .string p, .int .i64 mode, .int .i64 now, .int .i64 i1, .string s] 80)))) (show Turns (w6.alloc (.cells #[.int .i64 0, .string fr, .string p, .int .i64 mode, .int .i64 now, .int .i64 i1, .string s] 80)) w8 (Loc.foot ⟨F, bf, bs, vp, vk⟩) from ⟨hg8.os, hg8.tape, hg8.output, hg8.size, fun k hk hx => hg8.block k hk (fun e => hx (.inr (.inr (.inr e.symm))))⟩)))
  all_goals
    have F8 : FsIs w8 F bf bs (N + 1) T' S vp q now ino' ops off 0 vk := ⟨KF8, T8, S8, F6.out.ne⟩
    have F9 := Lib.hid (F8.setPend (.slice (some ⟨gg, 0, none⟩) (ps.length + 1) cap))
    have P9 := Lib.hid (own8.kept (grown_cellF w8 F 2 (.slice (some ⟨gg, 0, none⟩) (ps.length + 1) cap)) (Or.inr (own_blk_ne own8 KF8 (by decide))))
    have V8 := Lib.hid (K8.kept (grown_cellF w8 F 2 (.slice (some ⟨gg, 0, none⟩) (ps.length + 1) cap)) (Or.inr (own_blk_ne K8 KF8 (by decide))))
    have D9 := Lib.hid (D8.trans (Turns.of_grown (X := Loc.foot ⟨F, bf, bs, vp, vk⟩) (grown_cellF w8 F 2 (.slice (some ⟨gg, 0, none⟩) (ps.length + 1) cap)) (.inl rfl)))
    have HAT := Lib.hid (show vp.ownBlock = some gg ∨ w.heap.size ≤ gg from hat8.imp id (fun e => by have := D6.out.size; omega))
    have y6 := F9.out.x.cell 6
    have yf := F9.out.x.frozen 6
    have hops := HN.out.2.2
    clear z8 f8 T8 S8 D8 KX8 KF8 F8 own8 hg8 hat8 hlt8 K8 z0 z7 z9 O7 O9 V7 V9 ZZ KF7 KX7 KF9 KX9 g2 g9 v0 v1 v2 v3 v4 v5 v6 x0 x1 x2 x3 x4 x5 x6 F6 HX6 D6 O6 V6
    go_wp2
    go_ret
    refine ⟨⟨F, bf, bs, .slice (some ⟨gg, 0, none⟩) (ps.length + 1) cap, vk⟩, rfl, ⟨?_, ?_, ?_, HLO.out, ?_, HSS.out, ?_⟩, rfl, ?_, ?_⟩
    · have := F9.out.setOps (ops + 1)
      rw [HT'.out] at this
      exact this
    · have hQ := P9.out.kept (grown_cellF _ F 6 (.int .i64 (ops + 1))) (Or.inr (own_blk_ne P9.out F9.out.x (by decide)))
      show World.ownsRow _ B 80 7 _ (ps ++ [_]).length ((ps ++ [_]).flatMap cO)
      rw [List.length_append, List.flatMap_append]
      exact hQ
    · exact V8.out.kept (grown_cellF _ F 6 (.int .i64 (ops + 1))) (Or.inr (own_blk_ne V8.out F9.out.x (by decide)))
    · exact HST.out.do_ HOK.out
    · intro o ho
      rcases List.mem_append.1 ho with ho | ho
      · exact HSO.out o ho
      · obtain rfl := List.mem_singleton.1 ho
        exact HOK.out
    · intro j hj
      rcases hj with rfl | rfl | rfl | e
      · exact .inl (.inl rfl)
      · exact .inl (.inr (.inl rfl))
      · exact .inl (.inr (.inr (.inl rfl)))
      · obtain rfl : gg = j := by simpa [Value.ownBlock] using e
        exact HAT.out.imp (fun e => .inr (.inr (.inr e))) id
    · exact D9.out.trans (Turns.of_grown (grown_cellF _ F 6 (.int .i64 (ops + 1))) (.inl rfl))
set_option maxRecDepth 100000 in
set_option maxHeartbeats 8000000 in
theorem step_up0a {w : World} {B N : Nat} {L : Loc} {D : DK} (h : DiskIs w B L N D) (fr p : ByteArray) (m t i : Int) (s0 : ByteArray) (mode : Int) (v : Value) (s : ByteArray) (hv : BytesIn w L.foot v s) (ha : 2 ≤ D.armed) (ha2 : D.armed ≤ 9223372036854775807) (hfr : fr.size ≤ 1000) (hpp : p.size ≤ 1000) (hN : N ≤ 1000000) (hp : D.ps.length ≤ 100000) (hB : B ≤ w.heap.size) (h0 : 0 ≤ D.ino) (h1 : D.ino ≤ 1000000) (o0 : 0 ≤ D.ops) (o1 : D.ops ≤ 1000000) :
    Calls Tryd.prog 56 #[.pointer (some ⟨L.F, 0, none⟩), .agg (opC 0 fr p m t i s0), .int .i64 mode, v] w fun e w' => ∃ L', e = .returned (.int .i64 0) ∧ DiskIs w' B L' (N + 1) { D with T := doO D.T (0, fr, p, mode, D.now, inoOf D.T p D.ino, s), ps := D.ps ++ [(0, fr, p, mode, D.now, inoOf D.T p D.ino, s)], ino := inoNew D.T p D.ino, ops := D.ops + 1, armed := D.armed - 1 } ∧ Next w L w' L' := by
  have hX0 := h.alloc (.cells (opC 0 fr p m t i s0) 80)
  have hd1 := hX0.setArmed (D.armed - 1)
  have NX := (Next.alloc w L (.cells (opC 0 fr p m t i s0) 80)).trans (Next.cell _ L 8 (.int .i64 (D.armed - 1)))
  have X0 := (Blk.new w 80 (opC 0 fr p m t i s0)).far (p := ⟨L.F, 8, none⟩) (by have := h.fs.x.lt; show w.heap.size ≠ L.F; omega) (.int .i64 (D.armed - 1))
  obtain ⟨F, bf, bs, vp, vk⟩ := L
  obtain ⟨T, S, ps, q, now, ino, ops, off, armed, ks⟩ := D
  dsimp only at ha ha2 hp h0 h1 o0 o1 hd1 NX X0 hv ⊢
  have c8 := hX0.fs.x.cell 8
  have f8 := hX0.fs.x.frozen 8
  have HLO := Lib.hid h.lo
  have HST := Lib.hid h.sT
  have HSS := Lib.hid h.sS
  have HSO := Lib.hid h.so
  have HB := Lib.hid hB
  have HN := Lib.hid (And.intro hN (And.intro hp (And.intro o0 o1)))
  have HI := Lib.hid (And.intro h0 h1)
  have HFR := Lib.hid (And.intro hfr hpp)
  have HV := Lib.hid hv
  dsimp only at HLO HST HSS HSO
  have FNE : Hid (w.heap.size ≠ F) := Lib.hid (by have := h.fs.x.lt; dsimp only at this; omega)
  have ONX := Lib.hid (show vp.ownBlock ≠ some w.heap.size from fun e => by have := (h.ps.lt _ e).2; omega)
  have HD1 := Lib.hid hd1
  have HNX := Lib.hid NX
  have HX0 := Lib.hid X0
  obtain ⟨i1, hi1⟩ : ∃ i1, i1 = inoOf T p ino := ⟨_, rfl⟩
  obtain ⟨ino', hino⟩ : ∃ i1, i1 = inoNew T p ino := ⟨_, rfl⟩
  rw [← hi1, ← hino]
  have HI1 := Lib.hid hi1
  have HI2 := Lib.hid hino
  clear hi1 hino
  clear h hX0 hd1 NX X0 hN hp o0 o1 h0 h1 hfr hpp hB hv
  obtain ⟨a1, ha1⟩ : ∃ a : Int, a = armed - 1 := ⟨_, rfl⟩
  rw [← ha1] at HD1 HNX HX0 ⊢
  have hd8 : decide (0 < armed) = true := decide_eq_true (by omega)
  have hq8 : (armed - 1 == 0) = false := by rw [beq_eq_false_iff_ne]; omega
  go_enter Tryd.func56, Tryd.ntmps56
  have d8 := HD1.out.fs.x.cell 8
  go_upto_region 6 with fail
  clear c8 f8 d8 hd8 hq8
  rw [← ha1]
  generalize hW : (w.alloc (.cells (opC 0 fr p m t i s0) 80)).setCell ⟨F, 8, none⟩ (.int .i64 (a1)) = W1 at *
  clear hW ha1 ha ha2
  obtain ⟨X, hX⟩ : ∃ X, X = w.heap.size := ⟨_, rfl⟩
  rw [← hX] at HX0 FNE ONX ⊢
  have HXS := Lib.hid hX
  clear hX
  have FR := Lib.hid (fresh_any HD1.out.fs p mode v s (by have := HFR.out.2; unfold maxLen; omega) (HV.out.of HNX.out.t (.inl rfl)) HI.out.1 (by have := HI.out.2; dsimp only; omega))
  have c0 := HX0.out.cell 0
  have c2 := HX0.out.cell 2
  go_wp2_with fail
  refine FR.out.mono ?_
  rintro e w2 ⟨rfl, FS2, G2⟩
  clear c0 c2
  unfold fV
  dsimp only at FS2 G2 ⊢
  rw [← HI2.out] at FS2
  rw [← HI1.out]
  have X2 : Blk w2 X 80 _ := HX0.out.grown G2 (fun e => FNE.out (Option.some.inj e))
  have r3 := X2.cell 3
  have r4 := X2.cell 4
  have r5 := X2.cell 5
  have r6 := X2.cell 6
  have q3 := X2.frozen 3
  have q4 := X2.frozen 4
  have q5 := X2.frozen 5
  have q6 := X2.frozen 6
  have HX2 := Lib.hid X2
  have F2 := Lib.hid FS2
  have HG2 := Lib.hid G2
  clear X2 FS2 G2 FR
  go_upto_region 8 with fail
  have nF := HX2.out.ne_ F2.out.x (by decide)
  have nb := blk_tree_ne HX2.out F2.out.f
  have ns := blk_tree_ne HX2.out F2.out.s
  have F3 := Lib.hid ((((F2.out.farSet 3 (.int .i64 mode) nF nb ns).farSet 4 (.int .i64 now) nF nb ns).farSet 5 (.int .i64 i1) nF nb ns).farSet 6 (.string s) nF nb ns)
  have X3 := Lib.hid (show Blk ((((w2.setCell ⟨X, 3, none⟩ (.int .i64 mode)).setCell ⟨X, 4, none⟩ (.int .i64 now)).setCell ⟨X, 5, none⟩ (.int .i64 i1)).setCell ⟨X, 6, none⟩ (.string s)) X 80 #[.int .i64 0, .string fr, .string p, .int .i64 mode, .int .i64 now, .int .i64 i1, .string s] from by
    simpa using (((HX2.out.set_ 3 (.int .i64 mode)).set_ 4 (.int .i64 now)).set_ 5 (.int .i64 i1)).set_ 6 (.string s))
  have O2 := HD1.out.ps.kept HG2.out (Or.inr (own_blk_ne HD1.out.ps HD1.out.fs.x (by decide)))
  have V2 := HD1.out.ks.kept HG2.out (Or.inr (own_blk_ne HD1.out.ks HD1.out.fs.x (by decide)))
  have on : vp.ownBlock = none ∨ vp.ownBlock ≠ some X := Or.inr ONX.out
  have vn : vk.ownBlock = none ∨ vk.ownBlock ≠ some X := Or.inr (own_blk_ne HD1.out.ks HX0.out (by decide))
  have O3 := Lib.hid ((((O2.kept (grown_cellF _ X 3 (.int .i64 mode)) on).kept (grown_cellF _ X 4 (.int .i64 now)) on).kept (grown_cellF _ X 5 (.int .i64 i1)) on).kept (grown_cellF _ X 6 (.string s)) on)
  have V3 := Lib.hid ((((V2.kept (grown_cellF _ X 3 (.int .i64 mode)) vn).kept (grown_cellF _ X 4 (.int .i64 now)) vn).kept (grown_cellF _ X 5 (.int .i64 i1)) vn).kept (grown_cellF _ X 6 (.string s)) vn)
  have tX : ∀ (a : World) (j : Nat) (u : Value), Turns w a (Loc.foot ⟨F, bf, bs, vp, vk⟩) → Turns w (a.setCell ⟨X, j, none⟩ u) (Loc.foot ⟨F, bf, bs, vp, vk⟩) := fun a j u ha => ⟨ha.os, ha.tape, ha.output, Nat.le_trans ha.size (by simp), fun k hk hx => (Below.heap_setCell _ _ _ _ (fun e => by have := HXS.out; dsimp only at e; omega)).trans (ha.block k hk hx)⟩
  have D3 := Lib.hid (tX _ 6 (.string s) (tX _ 5 (.int .i64 i1) (tX _ 4 (.int .i64 now) (tX _ 3 (.int .i64 mode) (HNX.out.t.trans (Turns.of_grown HG2.out (.inl rfl)))))))
  obtain ⟨W3, hW3⟩ : ∃ W3, W3 = (((w2.setCell ⟨X, 3, none⟩ (.int .i64 mode)).setCell ⟨X, 4, none⟩ (.int .i64 now)).setCell ⟨X, 5, none⟩ (.int .i64 i1)).setCell ⟨X, 6, none⟩ (.string s) := ⟨_, rfl⟩
  rw [← hW3] at F3 X3 O3 D3 V3 ⊢
  clear hW3 O2 V2 on vn tX nF nb ns HX2 F2 HG2 r3 r4 r5 r6 q3 q4 q5 q6 HD1 HX0 HNX FNE
  have HOK := Lib.hid (show okO (0, fr, p, mode, now, i1, s) from ⟨.inl rfl, HFR.out.1, HFR.out.2⟩)
  have z0 : W3.drew.cell? ⟨F, 0, none⟩ = some (.map (some bf)) ∧ W3.drew.cell? ⟨X, 0, none⟩ = some (.int .i64 0) ∧ W3.drew.cell? ⟨X, 1, none⟩ = some (.string fr) ∧ W3.drew.cell? ⟨X, 2, none⟩ = some (.string p) ∧ W3.drew.cell? ⟨X, 3, none⟩ = some (.int .i64 mode) ∧ W3.drew.cell? ⟨X, 4, none⟩ = some (.int .i64 now) ∧ W3.drew.cell? ⟨X, 5, none⟩ = some (.int .i64 i1) ∧ W3.drew.cell? ⟨X, 6, none⟩ = some (.string s) :=
    ⟨F3.out.x.cell 0, X3.out.cell 0, X3.out.cell 1, X3.out.cell 2, X3.out.cell 3, X3.out.cell 4, X3.out.cell 5, X3.out.cell 6⟩
  have DW := Lib.hid (show Calls Tryd.prog 40 #[.map (some bf), .agg #[.int .i64 0, .string fr, .string p, .int .i64 mode, .int .i64 now, .int .i64 i1, .string s]] W3.drew fun e w'' => e = .returned (.tuple #[]) ∧ TreeIs w'' bf (N + 1) (doO T (0, fr, p, mode, now, i1, s)) ∧ W3.drew.grownBy w'' (some bf) from
    do_any W3.drew bf N T (0, fr, p, mode, now, i1, s) F3.out.f (by have := HN.out.1; unfold maxLen; omega) (by have := HOK.out.2.1; dsimp only at this ⊢; unfold maxLen; omega) (by have := HOK.out.2.2; dsimp only at this ⊢; unfold maxLen; omega) HOK.out.1)
  have XB := Lib.hid (blk_tree_ne X3.out F3.out.f)
  have FB := Lib.hid (blk_tree_ne F3.out.x F3.out.f)
  go_region_held3 (fun w' => w'.cell? ⟨F, 0, none⟩ = some (.map (some bf)) ∧ w'.cell? ⟨X, 0, none⟩ = some (.int .i64 0) ∧ w'.cell? ⟨X, 1, none⟩ = some (.string fr) ∧ w'.cell? ⟨X, 2, none⟩ = some (.string p) ∧ w'.cell? ⟨X, 3, none⟩ = some (.int .i64 mode) ∧ w'.cell? ⟨X, 4, none⟩ = some (.int .i64 now) ∧ w'.cell? ⟨X, 5, none⟩ = some (.int .i64 i1) ∧ w'.cell? ⟨X, 6, none⟩ = some (.string s))
    (first | exact z0 | exact z6)
    ((go_at_call 40; (with_reducible refine DW.out.mono ?_); rintro e w6 ⟨rfl, T6, G5⟩; have G6 : W3.grownBy w6 (some bf) := ⟨G5.os, G5.tape, G5.output, G5.size, G5.block⟩; have X6 : Blk w6 X 80 _ := X3.out.grown G6 (fun e => XB.out (Option.some.inj e)); have K6 : Blk w6 F 74 _ := F3.out.x.grown G6 (fun e => FB.out (Option.some.inj e)); have z6 := And.intro (K6.cell 0) (And.intro (X6.cell 0) (And.intro (X6.cell 1) (And.intro (X6.cell 2) (And.intro (X6.cell 3) (And.intro (X6.cell 4) (And.intro (X6.cell 5) (X6.cell 6)))))))))
  have O6 := Lib.hid (show w6.ownsRow B 80 7 vp ps.length (ps.flatMap cO) from O3.out.kept G6 (Or.inr (own_tree_ne O3.out F3.out.f)))
  have V6 := Lib.hid (show w6.ownsRow B 4 1 vk ks.length (ks.flatMap cB) from V3.out.kept G6 (Or.inr (own_tree_ne V3.out F3.out.f)))
  obtain ⟨T', hT'⟩ : ∃ T', T' = doO T (0, fr, p, mode, now, i1, s) := ⟨_, rfl⟩
  have HT' := Lib.hid hT'
  rw [← hT'] at T6
  have F6 := Lib.hid (show FsIs w6 F bf bs (N + 1) T' S vp q now ino' ops off a1 vk from ⟨K6, T6, (F3.out.s.kept G6 (fun e => F3.out.ne (Option.some.inj e).symm)).mono (Nat.le_succ _), F3.out.ne⟩)
  have HX6 := Lib.hid X6
  have D6 := Lib.hid (D3.out.trans (Turns.of_grown (X := Loc.foot ⟨F, bf, bs, vp, vk⟩) G6 (.inr (.inl rfl))))
  clear z0 z6 G5 G6 T6 X6 K6 DW XB FB F3 X3 O3 D3 V3 hT'
  obtain ⟨i0, hi, hz0, hz1, hz2⟩ := info_parts opInfo
  have ZZ := Lib.hid fun W (h2 : W.cell? ⟨F, 2, none⟩ = some vp) (hx : Blk W X 80 #[.int .i64 0, .string fr, .string p, .int .i64 mode, .int .i64 now, .int .i64 i1, .string s]) => (⟨h2, hx.cell 0, hx.cell 1, hx.cell 2, hx.cell 3, hx.cell 4, hx.cell 5, hx.cell 6⟩ : W.cell? ⟨F, 2, none⟩ = some vp ∧ W.cell? ⟨X, 0, none⟩ = some (.int .i64 0) ∧ W.cell? ⟨X, 1, none⟩ = some (.string fr) ∧ W.cell? ⟨X, 2, none⟩ = some (.string p) ∧ W.cell? ⟨X, 3, none⟩ = some (.int .i64 mode) ∧ W.cell? ⟨X, 4, none⟩ = some (.int .i64 now) ∧ W.cell? ⟨X, 5, none⟩ = some (.int .i64 i1) ∧ W.cell? ⟨X, 6, none⟩ = some (.string s))
  have z0 := ZZ.out w6.drew (F6.out.x.cell 2) HX6.out
  have z7 := ZZ.out (w6.drew.alloc (.cells #[.int .i64 0, .string fr, .string p, .int .i64 mode, .int .i64 now, .int .i64 i1, .string s] 80)) (((show Blk w6.drew F 74 _ from F6.out.x).alloc (.cells #[.int .i64 0, .string fr, .string p, .int .i64 mode, .int .i64 now, .int .i64 i1, .string s] 80)).cell 2) ((show Blk w6.drew X 80 _ from HX6.out).alloc (.cells #[.int .i64 0, .string fr, .string p, .int .i64 mode, .int .i64 now, .int .i64 i1, .string s] 80))
  have KF7 := Lib.hid ((show Blk w6.drew F 74 _ from F6.out.x).alloc (.cells #[.int .i64 0, .string fr, .string p, .int .i64 mode, .int .i64 now, .int .i64 i1, .string s] 80))
  have KX7 := Lib.hid ((show Blk w6.drew X 80 _ from HX6.out).alloc (.cells #[.int .i64 0, .string fr, .string p, .int .i64 mode, .int .i64 now, .int .i64 i1, .string s] 80))
  have KF9 := Lib.hid (show Blk (w6.alloc (.cells #[.int .i64 0, .string fr, .string p, .int .i64 mode, .int .i64 now, .int .i64 i1, .string s] 80)).drew F 74 _ from F6.out.x.alloc (.cells #[.int .i64 0, .string fr, .string p, .int .i64 mode, .int .i64 now, .int .i64 i1, .string s] 80))
  have KX9 := Lib.hid (show Blk (w6.alloc (.cells #[.int .i64 0, .string fr, .string p, .int .i64 mode, .int .i64 now, .int .i64 i1, .string s] 80)).drew X 80 _ from HX6.out.alloc (.cells #[.int .i64 0, .string fr, .string p, .int .i64 mode, .int .i64 now, .int .i64 i1, .string s] 80))
  have hb6 : B ≤ w6.heap.size := Nat.le_trans HB.out D6.out.size
  have hk6 : ps.length ≤ 100000 := HN.out.2.1
  have O7 : (w6.drew.alloc (.cells #[.int .i64 0, .string fr, .string p, .int .i64 mode, .int .i64 now, .int .i64 i1, .string s] 80)).ownsRow B 80 7 vp ps.length (ps.flatMap cO) := (show w6.drew.ownsRow B 80 7 vp ps.length (ps.flatMap cO) from O6.out).alloc _
  have V7 : (w6.drew.alloc (.cells #[.int .i64 0, .string fr, .string p, .int .i64 mode, .int .i64 now, .int .i64 i1, .string s] 80)).ownsRow B 4 1 vk ks.length (ks.flatMap cB) := (show w6.drew.ownsRow B 4 1 vk ks.length (ks.flatMap cB) from V6.out).alloc _
  go_wp2
  have Fl : F < w6.drew.heap.size := F6.out.x.lt
  have Xl : X < w6.drew.heap.size := HX6.out.lt
  have g2 := z0.1
  have z9 := ZZ.out (w6.alloc (.cells #[.int .i64 0, .string fr, .string p, .int .i64 mode, .int .i64 now, .int .i64 i1, .string s] 80)) ((F6.out.x.alloc (.cells #[.int .i64 0, .string fr, .string p, .int .i64 mode, .int .i64 now, .int .i64 i1, .string s] 80)).cell 2) (HX6.out.alloc (.cells #[.int .i64 0, .string fr, .string p, .int .i64 mode, .int .i64 now, .int .i64 i1, .string s] 80))
  have g9 := z9.1
  have v0 := z9.2.1
  have v1 := z9.2.2.1
  have v2 := z9.2.2.2.1
  have v3 := z9.2.2.2.2.1
  have v4 := z9.2.2.2.2.2.1
  have v5 := z9.2.2.2.2.2.2.1
  have v6 := z9.2.2.2.2.2.2.2
  have O9 : (w6.alloc (.cells #[.int .i64 0, .string fr, .string p, .int .i64 mode, .int .i64 now, .int .i64 i1, .string s] 80)).drew.ownsRow B 80 7 vp ps.length (ps.flatMap cO) := (show w6.ownsRow B 80 7 vp ps.length (ps.flatMap cO) from O6.out).alloc _
  have V9 : (w6.alloc (.cells #[.int .i64 0, .string fr, .string p, .int .i64 mode, .int .i64 now, .int .i64 i1, .string s] 80)).drew.ownsRow B 4 1 vk ks.length (ks.flatMap cB) := (show w6.ownsRow B 4 1 vk ks.length (ks.flatMap cB) from V6.out).alloc _
  have x0 := z0.2.1
  have x1 := z0.2.2.1
  have x2 := z0.2.2.2.1
  have x3 := z0.2.2.2.2.1
  have x4 := z0.2.2.2.2.2.1
  have x5 := z0.2.2.2.2.2.2.1
  have x6 := z0.2.2.2.2.2.2.2
  go_region_law
    (first
    | (refine step_append_lies _ (by rfl) _ _ 72 (by rfl) B 80 i0 (.agg #[.int .i64 0, .string ⟨#[]⟩, .string ⟨#[]⟩, .int .i64 0, .int .i64 0, .int .i64 0, .string ⟨#[]⟩]) 7 80 Tryd.underlying72 hi hz0 hz1 hz2 rfl (by omega) _ ps.length _ (by rfl) O7
        ⟨w6.heap.size, 0, none⟩ 1 1 [.int .i64 0, .string fr, .string p, .int .i64 mode, .int .i64 now, .int .i64 i1, .string s] (by rfl) (by rfl) (World.news_of_block (cs := #[.int .i64 0, .string fr, .string p, .int .i64 mode, .int .i64 now, .int .i64 i1, .string s]) (t := 80) (fr := (0, 0)) (heap_alloc_new w6.drew _)) (by simp [Value.oneCell'])
        (by omega) (by unfold maxLen; omega) (by omega) (by simp; omega) (w6.heap.size + 1) (by simp) ?_; intro gg cap w8 own8 hg8 hat8 hlt8; have KF8 : Blk w8 F 74 _ := KF7.out.grown hg8 (fun e => own_blk_ne O7 KF7.out (by decide) e.symm); have f8 := KF8.frozen 2; have KX8 : Blk w8 X 80 _ := KX7.out.grown hg8 (fun e => ONX.out e.symm); have z8 := ZZ.out w8 (KF8.cell 2) KX8; have T8 := ((show TreeIs w6.drew bf (N + 1) T' from F6.out.f).alloc (.cells #[.int .i64 0, .string fr, .string p, .int .i64 mode, .int .i64 now, .int .i64 i1, .string s] 80)).kept hg8 (fun e => own_tree_ne O7 ((show TreeIs w6.drew bf (N + 1) T' from F6.out.f).alloc (.cells #[.int .i64 0, .string fr, .string p, .int .i64 mode, .int .i64 now, .int .i64 i1, .string s] 80)) e.symm); have S8 := ((show TreeIs w6.drew bs (N + 1) S from F6.out.s).alloc (.cells #[.int .i64 0, .string fr, .string p, .int .i64 mode, .int .i64 now, .int .i64 i1, .string s] 80)).kept hg8 (fun e => own_tree_ne O7 ((show TreeIs w6.drew bs (N + 1) S from F6.out.s).alloc (.cells #[.int .i64 0, .string fr, .string p, .int .i64 mode, .int .i64 now, .int .i64 i1, .string s] 80)) e.symm); have K8 := V7.kept hg8 (own_own_ne V7 O7 (by decide)).symm; have D8 := Turns.trans (X := Loc.foot ⟨F, bf, bs, vp, vk⟩) (Turns.trans D6.out (Turns.of_below ((Below.refl _ w6).alloc (Nat.le_refl _) (.cells #[.int .i64 0, .string fr, .string p, .int .i64 mode, .int .i64 now, .int .i64 i1, .string s] 80)))) (show Turns (w6.alloc (.cells #[.int .i64 0, .string fr, .string p, .int .i64 mode, .int .i64 now, .int .i64 i1, .string s] 80)) w8 (Loc.foot ⟨F, bf, bs, vp, vk⟩) from ⟨hg8.os, hg8.tape, hg8.output, hg8.size, fun k hk hx => hg8.block k hk (fun e => hx (.inr (.inr (.inr e.symm))))⟩))
    | (refine step_append_lies _ (by rfl) _ _ 72 (by rfl) B 80 i0 (.agg #[.int .i64 0, .string ⟨#[]⟩, .string ⟨#[]⟩, .int .i64 0, .int .i64 0, .int .i64 0, .string ⟨#[]⟩]) 7 80 Tryd.underlying72 hi hz0 hz1 hz2 rfl (by omega) _ ps.length _ (by rfl) O9
        ⟨w6.heap.size, 0, none⟩ 1 1 [.int .i64 0, .string fr, .string p, .int .i64 mode, .int .i64 now, .int .i64 i1, .string s] (by rfl) (by rfl) (World.news_of_block (cs := #[.int .i64 0, .string fr, .string p, .int .i64 mode, .int .i64 now, .int .i64 i1, .string s]) (t := 80) (fr := (0, 0)) (show (w6.alloc _).drew.heap[w6.heap.size]? = _ from heap_alloc_new w6 _)) (by simp [Value.oneCell'])
        (by omega) (by unfold maxLen; omega) (by omega) (by simp; omega) (w6.heap.size + 1) (by simp) ?_; intro gg cap w8 own8 hg8 hat8 hlt8; have KF8 : Blk w8 F 74 _ := KF9.out.grown hg8 (fun e => own_blk_ne O9 KF9.out (by decide) e.symm); have f8 := KF8.frozen 2; have KX8 : Blk w8 X 80 _ := KX9.out.grown hg8 (fun e => ONX.out e.symm); have z8 := ZZ.out w8 (KF8.cell 2) KX8; have T8 := (show TreeIs (w6.alloc (.cells #[.int .i64 0, .string fr, .string p, .int .i64 mode, .int .i64 now, .int .i64 i1, .string s] 80)).drew bf (N + 1) T' from F6.out.f.alloc (.cells #[.int .i64 0, .string fr, .string p, .int .i64 mode, .int .i64 now, .int .i64 i1, .string s] 80)).kept hg8 (fun e => own_tree_ne O9 (show TreeIs (w6.alloc (.cells #[.int .i64 0, .string fr, .string p, .int .i64 mode, .int .i64 now, .int .i64 i1, .string s] 80)).drew bf (N + 1) T' from F6.out.f.alloc (.cells #[.int .i64 0, .string fr, .string p, .int .i64 mode, .int .i64 now, .int .i64 i1, .string s] 80)) e.symm); have S8 := (show TreeIs (w6.alloc (.cells #[.int .i64 0, .string fr, .string p, .int .i64 mode, .int .i64 now, .int .i64 i1, .string s] 80)).drew bs (N + 1) S from F6.out.s.alloc (.cells #[.int .i64 0, .string fr, .string p, .int .i64 mode, .int .i64 now, .int .i64 i1, .string s] 80)).kept hg8 (fun e => own_tree_ne O9 (show TreeIs (w6.alloc (.cells #[.int .i64 0, .string fr, .string p, .int .i64 mode, .int .i64 now, .int .i64 i1, .string s] 80)).drew bs (N + 1) S from F6.out.s.alloc (.cells #[.int .i64 0, .string fr, .string p, .int .i64 mode, .int .i64 now, .int .i64 i1, .string s] 80)) e.symm); have K8 := V9.kept hg8 (own_own_ne V9 O9 (by decide)).symm; have D8 := Turns.trans (X := Loc.foot ⟨F, bf, bs, vp, vk⟩) (Turns.trans D6.out (Turns.of_below ((Below.refl _ w6).alloc (Nat.le_refl _) (.cells #[.int .i64 0, .string fr, .string p, .int .i64 mode, .int .i64 now, .int .i64 i1, .string s] 80)))) (show Turns (w6.alloc (.cells #[.int .i64 0, .string fr, .string p, .int .i64 mode, .int .i64 now, .int .i64 i1, .string s] 80)) w8 (Loc.foot ⟨F, bf, bs, vp, vk⟩) from ⟨hg8.os, hg8.tape, hg8.output, hg8.size, fun k hk hx => hg8.block k hk (fun e => hx (.inr (.inr (.inr e.symm))))⟩)))
  all_goals
    have F8 : FsIs w8 F bf bs (N + 1) T' S vp q now ino' ops off a1 vk := ⟨KF8, T8, S8, F6.out.ne⟩
    have F9 := Lib.hid (F8.setPend (.slice (some ⟨gg, 0, none⟩) (ps.length + 1) cap))
    have P9 := Lib.hid (own8.kept (grown_cellF w8 F 2 (.slice (some ⟨gg, 0, none⟩) (ps.length + 1) cap)) (Or.inr (own_blk_ne own8 KF8 (by decide))))
    have V8 := Lib.hid (K8.kept (grown_cellF w8 F 2 (.slice (some ⟨gg, 0, none⟩) (ps.length + 1) cap)) (Or.inr (own_blk_ne K8 KF8 (by decide))))
    have D9 := Lib.hid (D8.trans (Turns.of_grown (X := Loc.foot ⟨F, bf, bs, vp, vk⟩) (grown_cellF w8 F 2 (.slice (some ⟨gg, 0, none⟩) (ps.length + 1) cap)) (.inl rfl)))
    have HAT := Lib.hid (show vp.ownBlock = some gg ∨ w.heap.size ≤ gg from hat8.imp id (fun e => by have := D6.out.size; omega))
    have y6 := F9.out.x.cell 6
    have yf := F9.out.x.frozen 6
    have hops := HN.out.2.2
    clear z8 f8 T8 S8 D8 KX8 KF8 F8 own8 hg8 hat8 hlt8 K8 z0 z7 z9 O7 O9 V7 V9 ZZ KF7 KX7 KF9 KX9 g2 g9 v0 v1 v2 v3 v4 v5 v6 x0 x1 x2 x3 x4 x5 x6 F6 HX6 D6 O6 V6
    go_wp2
    go_ret
    refine ⟨⟨F, bf, bs, .slice (some ⟨gg, 0, none⟩) (ps.length + 1) cap, vk⟩, rfl, ⟨?_, ?_, ?_, HLO.out, ?_, HSS.out, ?_⟩, rfl, ?_, ?_⟩
    · have := F9.out.setOps (ops + 1)
      rw [HT'.out] at this
      exact this
    · have hQ := P9.out.kept (grown_cellF _ F 6 (.int .i64 (ops + 1))) (Or.inr (own_blk_ne P9.out F9.out.x (by decide)))
      show World.ownsRow _ B 80 7 _ (ps ++ [_]).length ((ps ++ [_]).flatMap cO)
      rw [List.length_append, List.flatMap_append]
      exact hQ
    · exact V8.out.kept (grown_cellF _ F 6 (.int .i64 (ops + 1))) (Or.inr (own_blk_ne V8.out F9.out.x (by decide)))
    · exact HST.out.do_ HOK.out
    · intro o ho
      rcases List.mem_append.1 ho with ho | ho
      · exact HSO.out o ho
      · obtain rfl := List.mem_singleton.1 ho
        exact HOK.out
    · intro j hj
      rcases hj with rfl | rfl | rfl | e
      · exact .inl (.inl rfl)
      · exact .inl (.inr (.inl rfl))
      · exact .inl (.inr (.inr (.inl rfl)))
      · obtain rfl : gg = j := by simpa [Value.ownBlock] using e
        exact HAT.out.imp (fun e => .inr (.inr (.inr e))) id
    · exact D9.out.trans (Turns.of_grown (grown_cellF _ F 6 (.int .i64 (ops + 1))) (.inl rfl))
set_option maxRecDepth 100000 in
set_option maxHeartbeats 8000000 in
theorem step_upkn {w : World} {B N : Nat} {L : Loc} {D : DK} (h : DiskIs w B L N D) (k : Int) (hk : k = 1 ∨ k = 2) (fr p : ByteArray) (m t i : Int) (s0 : ByteArray) (mode : Int) (v : Value) (ha : D.armed = 0) (hfr : fr.size ≤ 1000) (hpp : p.size ≤ 1000) (hN : N ≤ 1000000) (hp : D.ps.length ≤ 100000) (hB : B ≤ w.heap.size) (h0 : 0 ≤ D.ino) (h1 : D.ino ≤ 1000000) (o0 : 0 ≤ D.ops) (o1 : D.ops ≤ 1000000) :
    Calls Tryd.prog 56 #[.pointer (some ⟨L.F, 0, none⟩), .agg (opC k fr p m t i s0), .int .i64 mode, v] w fun e w' => ∃ L', e = .returned (.int .i64 0) ∧ DiskIs w' B L' (N + 1) { D with T := doO D.T (k, fr, p, m, t, i, s0), ps := D.ps ++ [(k, fr, p, m, t, i, s0)], ino := D.ino, ops := D.ops + 1, armed := 0 } ∧ Next w L w' L' := by
  have hX0 := h.alloc (.cells (opC k fr p m t i s0) 80)
  have hd1 := hX0
  have NX := Next.alloc w L (.cells (opC k fr p m t i s0) 80)
  have X0 := Blk.new w 80 (opC k fr p m t i s0)
  obtain ⟨F, bf, bs, vp, vk⟩ := L
  obtain ⟨T, S, ps, q, now, ino, ops, off, armed, ks⟩ := D
  dsimp only at ha hp h0 h1 o0 o1 hd1 NX X0 ⊢
  have c8 := hX0.fs.x.cell 8
  have f8 := hX0.fs.x.frozen 8
  have HLO := Lib.hid h.lo
  have HST := Lib.hid h.sT
  have HSS := Lib.hid h.sS
  have HSO := Lib.hid h.so
  have HB := Lib.hid hB
  have HN := Lib.hid (And.intro hN (And.intro hp (And.intro o0 o1)))
  have HI := Lib.hid (And.intro h0 h1)
  have HFR := Lib.hid (And.intro hfr hpp)
  dsimp only at HLO HST HSS HSO
  have FNE : Hid (w.heap.size ≠ F) := Lib.hid (by have := h.fs.x.lt; dsimp only at this; omega)
  have ONX := Lib.hid (show vp.ownBlock ≠ some w.heap.size from fun e => by have := (h.ps.lt _ e).2; omega)
  have HD1 := Lib.hid hd1
  have HNX := Lib.hid NX
  have HX0 := Lib.hid X0
  clear h hX0 hd1 NX X0 hN hp o0 o1 h0 h1 hfr hpp hB
  subst ha
  go_enter Tryd.func56, Tryd.ntmps56
  go_upto_region 6 with fail
  clear c8 f8
  generalize hW : w.alloc (.cells (opC k fr p m t i s0) 80) = W1 at *
  clear hW 
  obtain ⟨X, hX⟩ : ∃ X, X = w.heap.size := ⟨_, rfl⟩
  rw [← hX] at HX0 FNE ONX ⊢
  clear hX
  have c0 := HX0.out.cell 0
  have hk0 : (k == 0) = false := by rcases hk with rfl | rfl <;> rfl
  obtain ⟨ino', hino⟩ : ∃ x, x = ino := ⟨_, rfl⟩
  have HOK := Lib.hid (show okO (k, fr, p, m, t, i, s0) from ⟨.inr hk, HFR.out.1, HFR.out.2⟩)
  subst hino
  clear hk
  go_upto_region 8 with fail
  clear c0 hk0
  obtain ⟨W3, hW3⟩ : ∃ W3, W3 = W1 := ⟨_, rfl⟩
  have F3 := Lib.hid HD1.out.fs
  have X3 := Lib.hid HX0.out
  have O3 := Lib.hid HD1.out.ps
  have V3 := Lib.hid HD1.out.ks
  have D3 := Lib.hid HNX.out.t
  dsimp only at F3 O3 V3 D3
  rw [← hW3] at F3 X3 O3 V3 D3 ⊢
  clear hW3 HD1 HX0 HNX FNE
  have z0 : W3.drew.cell? ⟨F, 0, none⟩ = some (.map (some bf)) ∧ W3.drew.cell? ⟨X, 0, none⟩ = some (.int .i64 k) ∧ W3.drew.cell? ⟨X, 1, none⟩ = some (.string fr) ∧ W3.drew.cell? ⟨X, 2, none⟩ = some (.string p) ∧ W3.drew.cell? ⟨X, 3, none⟩ = some (.int .i64 m) ∧ W3.drew.cell? ⟨X, 4, none⟩ = some (.int .i64 t) ∧ W3.drew.cell? ⟨X, 5, none⟩ = some (.int .i64 i) ∧ W3.drew.cell? ⟨X, 6, none⟩ = some (.string s0) :=
    ⟨F3.out.x.cell 0, X3.out.cell 0, X3.out.cell 1, X3.out.cell 2, X3.out.cell 3, X3.out.cell 4, X3.out.cell 5, X3.out.cell 6⟩
  have DW := Lib.hid (show Calls Tryd.prog 40 #[.map (some bf), .agg #[.int .i64 k, .string fr, .string p, .int .i64 m, .int .i64 t, .int .i64 i, .string s0]] W3.drew fun e w'' => e = .returned (.tuple #[]) ∧ TreeIs w'' bf (N + 1) (doO T (k, fr, p, m, t, i, s0)) ∧ W3.drew.grownBy w'' (some bf) from
    do_any W3.drew bf N T (k, fr, p, m, t, i, s0) F3.out.f (by have := HN.out.1; unfold maxLen; omega) (by have := HOK.out.2.1; dsimp only at this ⊢; unfold maxLen; omega) (by have := HOK.out.2.2; dsimp only at this ⊢; unfold maxLen; omega) HOK.out.1)
  have XB := Lib.hid (blk_tree_ne X3.out F3.out.f)
  have FB := Lib.hid (blk_tree_ne F3.out.x F3.out.f)
  go_region_held3 (fun w' => w'.cell? ⟨F, 0, none⟩ = some (.map (some bf)) ∧ w'.cell? ⟨X, 0, none⟩ = some (.int .i64 k) ∧ w'.cell? ⟨X, 1, none⟩ = some (.string fr) ∧ w'.cell? ⟨X, 2, none⟩ = some (.string p) ∧ w'.cell? ⟨X, 3, none⟩ = some (.int .i64 m) ∧ w'.cell? ⟨X, 4, none⟩ = some (.int .i64 t) ∧ w'.cell? ⟨X, 5, none⟩ = some (.int .i64 i) ∧ w'.cell? ⟨X, 6, none⟩ = some (.string s0))
    (first | exact z0 | exact z6)
    ((go_at_call 40; (with_reducible refine DW.out.mono ?_); rintro e w6 ⟨rfl, T6, G5⟩; have G6 : W3.grownBy w6 (some bf) := ⟨G5.os, G5.tape, G5.output, G5.size, G5.block⟩; have X6 : Blk w6 X 80 _ := X3.out.grown G6 (fun e => XB.out (Option.some.inj e)); have K6 : Blk w6 F 74 _ := F3.out.x.grown G6 (fun e => FB.out (Option.some.inj e)); have z6 := And.intro (K6.cell 0) (And.intro (X6.cell 0) (And.intro (X6.cell 1) (And.intro (X6.cell 2) (And.intro (X6.cell 3) (And.intro (X6.cell 4) (And.intro (X6.cell 5) (X6.cell 6)))))))))
  have O6 := Lib.hid (show w6.ownsRow B 80 7 vp ps.length (ps.flatMap cO) from O3.out.kept G6 (Or.inr (own_tree_ne O3.out F3.out.f)))
  have V6 := Lib.hid (show w6.ownsRow B 4 1 vk ks.length (ks.flatMap cB) from V3.out.kept G6 (Or.inr (own_tree_ne V3.out F3.out.f)))
  obtain ⟨T', hT'⟩ : ∃ T', T' = doO T (k, fr, p, m, t, i, s0) := ⟨_, rfl⟩
  have HT' := Lib.hid hT'
  rw [← hT'] at T6
  have F6 := Lib.hid (show FsIs w6 F bf bs (N + 1) T' S vp q now ino' ops off 0 vk from ⟨K6, T6, (F3.out.s.kept G6 (fun e => F3.out.ne (Option.some.inj e).symm)).mono (Nat.le_succ _), F3.out.ne⟩)
  have HX6 := Lib.hid X6
  have D6 := Lib.hid (D3.out.trans (Turns.of_grown (X := Loc.foot ⟨F, bf, bs, vp, vk⟩) G6 (.inr (.inl rfl))))
  clear z0 z6 G5 G6 T6 X6 K6 DW XB FB F3 X3 O3 D3 V3 hT'
  obtain ⟨i0, hi, hz0, hz1, hz2⟩ := info_parts opInfo
  have ZZ := Lib.hid fun W (h2 : W.cell? ⟨F, 2, none⟩ = some vp) (hx : Blk W X 80 #[.int .i64 k, .string fr, .string p, .int .i64 m, .int .i64 t, .int .i64 i, .string s0]) => (⟨h2, hx.cell 0, hx.cell 1, hx.cell 2, hx.cell 3, hx.cell 4, hx.cell 5, hx.cell 6⟩ : W.cell? ⟨F, 2, none⟩ = some vp ∧ W.cell? ⟨X, 0, none⟩ = some (.int .i64 k) ∧ W.cell? ⟨X, 1, none⟩ = some (.string fr) ∧ W.cell? ⟨X, 2, none⟩ = some (.string p) ∧ W.cell? ⟨X, 3, none⟩ = some (.int .i64 m) ∧ W.cell? ⟨X, 4, none⟩ = some (.int .i64 t) ∧ W.cell? ⟨X, 5, none⟩ = some (.int .i64 i) ∧ W.cell? ⟨X, 6, none⟩ = some (.string s0))
  have z0 := ZZ.out w6.drew (F6.out.x.cell 2) HX6.out
  have z7 := ZZ.out (w6.drew.alloc (.cells #[.int .i64 k, .string fr, .string p, .int .i64 m, .int .i64 t, .int .i64 i, .string s0] 80)) (((show Blk w6.drew F 74 _ from F6.out.x).alloc (.cells #[.int .i64 k, .string fr, .string p, .int .i64 m, .int .i64 t, .int .i64 i, .string s0] 80)).cell 2) ((show Blk w6.drew X 80 _ from HX6.out).alloc (.cells #[.int .i64 k, .string fr, .string p, .int .i64 m, .int .i64 t, .int .i64 i, .string s0] 80))
  have KF7 := Lib.hid ((show Blk w6.drew F 74 _ from F6.out.x).alloc (.cells #[.int .i64 k, .string fr, .string p, .int .i64 m, .int .i64 t, .int .i64 i, .string s0] 80))
  have KX7 := Lib.hid ((show Blk w6.drew X 80 _ from HX6.out).alloc (.cells #[.int .i64 k, .string fr, .string p, .int .i64 m, .int .i64 t, .int .i64 i, .string s0] 80))
  have KF9 := Lib.hid (show Blk (w6.alloc (.cells #[.int .i64 k, .string fr, .string p, .int .i64 m, .int .i64 t, .int .i64 i, .string s0] 80)).drew F 74 _ from F6.out.x.alloc (.cells #[.int .i64 k, .string fr, .string p, .int .i64 m, .int .i64 t, .int .i64 i, .string s0] 80))
  have KX9 := Lib.hid (show Blk (w6.alloc (.cells #[.int .i64 k, .string fr, .string p, .int .i64 m, .int .i64 t, .int .i64 i, .string s0] 80)).drew X 80 _ from HX6.out.alloc (.cells #[.int .i64 k, .string fr, .string p, .int .i64 m, .int .i64 t, .int .i64 i, .string s0] 80))
  have hb6 : B ≤ w6.heap.size := Nat.le_trans HB.out D6.out.size
  have hk6 : ps.length ≤ 100000 := HN.out.2.1
  have O7 : (w6.drew.alloc (.cells #[.int .i64 k, .string fr, .string p, .int .i64 m, .int .i64 t, .int .i64 i, .string s0] 80)).ownsRow B 80 7 vp ps.length (ps.flatMap cO) := (show w6.drew.ownsRow B 80 7 vp ps.length (ps.flatMap cO) from O6.out).alloc _
  have V7 : (w6.drew.alloc (.cells #[.int .i64 k, .string fr, .string p, .int .i64 m, .int .i64 t, .int .i64 i, .string s0] 80)).ownsRow B 4 1 vk ks.length (ks.flatMap cB) := (show w6.drew.ownsRow B 4 1 vk ks.length (ks.flatMap cB) from V6.out).alloc _
  go_wp2
  have Fl : F < w6.drew.heap.size := F6.out.x.lt
  have Xl : X < w6.drew.heap.size := HX6.out.lt
  have g2 := z0.1
  have z9 := ZZ.out (w6.alloc (.cells #[.int .i64 k, .string fr, .string p, .int .i64 m, .int .i64 t, .int .i64 i, .string s0] 80)) ((F6.out.x.alloc (.cells #[.int .i64 k, .string fr, .string p, .int .i64 m, .int .i64 t, .int .i64 i, .string s0] 80)).cell 2) (HX6.out.alloc (.cells #[.int .i64 k, .string fr, .string p, .int .i64 m, .int .i64 t, .int .i64 i, .string s0] 80))
  have g9 := z9.1
  have v0 := z9.2.1
  have v1 := z9.2.2.1
  have v2 := z9.2.2.2.1
  have v3 := z9.2.2.2.2.1
  have v4 := z9.2.2.2.2.2.1
  have v5 := z9.2.2.2.2.2.2.1
  have v6 := z9.2.2.2.2.2.2.2
  have O9 : (w6.alloc (.cells #[.int .i64 k, .string fr, .string p, .int .i64 m, .int .i64 t, .int .i64 i, .string s0] 80)).drew.ownsRow B 80 7 vp ps.length (ps.flatMap cO) := (show w6.ownsRow B 80 7 vp ps.length (ps.flatMap cO) from O6.out).alloc _
  have V9 : (w6.alloc (.cells #[.int .i64 k, .string fr, .string p, .int .i64 m, .int .i64 t, .int .i64 i, .string s0] 80)).drew.ownsRow B 4 1 vk ks.length (ks.flatMap cB) := (show w6.ownsRow B 4 1 vk ks.length (ks.flatMap cB) from V6.out).alloc _
  have x0 := z0.2.1
  have x1 := z0.2.2.1
  have x2 := z0.2.2.2.1
  have x3 := z0.2.2.2.2.1
  have x4 := z0.2.2.2.2.2.1
  have x5 := z0.2.2.2.2.2.2.1
  have x6 := z0.2.2.2.2.2.2.2
  go_region_law
    (first
    | (refine step_append_lies _ (by rfl) _ _ 72 (by rfl) B 80 i0 (.agg #[.int .i64 0, .string ⟨#[]⟩, .string ⟨#[]⟩, .int .i64 0, .int .i64 0, .int .i64 0, .string ⟨#[]⟩]) 7 80 Tryd.underlying72 hi hz0 hz1 hz2 rfl (by omega) _ ps.length _ (by rfl) O7
        ⟨w6.heap.size, 0, none⟩ 1 1 [.int .i64 k, .string fr, .string p, .int .i64 m, .int .i64 t, .int .i64 i, .string s0] (by rfl) (by rfl) (World.news_of_block (cs := #[.int .i64 k, .string fr, .string p, .int .i64 m, .int .i64 t, .int .i64 i, .string s0]) (t := 80) (fr := (0, 0)) (heap_alloc_new w6.drew _)) (by simp [Value.oneCell'])
        (by omega) (by unfold maxLen; omega) (by omega) (by simp; omega) (w6.heap.size + 1) (by simp) ?_; intro gg cap w8 own8 hg8 hat8 hlt8; have KF8 : Blk w8 F 74 _ := KF7.out.grown hg8 (fun e => own_blk_ne O7 KF7.out (by decide) e.symm); have f8 := KF8.frozen 2; have KX8 : Blk w8 X 80 _ := KX7.out.grown hg8 (fun e => ONX.out e.symm); have z8 := ZZ.out w8 (KF8.cell 2) KX8; have T8 := ((show TreeIs w6.drew bf (N + 1) T' from F6.out.f).alloc (.cells #[.int .i64 k, .string fr, .string p, .int .i64 m, .int .i64 t, .int .i64 i, .string s0] 80)).kept hg8 (fun e => own_tree_ne O7 ((show TreeIs w6.drew bf (N + 1) T' from F6.out.f).alloc (.cells #[.int .i64 k, .string fr, .string p, .int .i64 m, .int .i64 t, .int .i64 i, .string s0] 80)) e.symm); have S8 := ((show TreeIs w6.drew bs (N + 1) S from F6.out.s).alloc (.cells #[.int .i64 k, .string fr, .string p, .int .i64 m, .int .i64 t, .int .i64 i, .string s0] 80)).kept hg8 (fun e => own_tree_ne O7 ((show TreeIs w6.drew bs (N + 1) S from F6.out.s).alloc (.cells #[.int .i64 k, .string fr, .string p, .int .i64 m, .int .i64 t, .int .i64 i, .string s0] 80)) e.symm); have K8 := V7.kept hg8 (own_own_ne V7 O7 (by decide)).symm; have D8 := Turns.trans (X := Loc.foot ⟨F, bf, bs, vp, vk⟩) (Turns.trans D6.out (Turns.of_below ((Below.refl _ w6).alloc (Nat.le_refl _) (.cells #[.int .i64 k, .string fr, .string p, .int .i64 m, .int .i64 t, .int .i64 i, .string s0] 80)))) (show Turns (w6.alloc (.cells #[.int .i64 k, .string fr, .string p, .int .i64 m, .int .i64 t, .int .i64 i, .string s0] 80)) w8 (Loc.foot ⟨F, bf, bs, vp, vk⟩) from ⟨hg8.os, hg8.tape, hg8.output, hg8.size, fun k hk hx => hg8.block k hk (fun e => hx (.inr (.inr (.inr e.symm))))⟩))
    | (refine step_append_lies _ (by rfl) _ _ 72 (by rfl) B 80 i0 (.agg #[.int .i64 0, .string ⟨#[]⟩, .string ⟨#[]⟩, .int .i64 0, .int .i64 0, .int .i64 0, .string ⟨#[]⟩]) 7 80 Tryd.underlying72 hi hz0 hz1 hz2 rfl (by omega) _ ps.length _ (by rfl) O9
        ⟨w6.heap.size, 0, none⟩ 1 1 [.int .i64 k, .string fr, .string p, .int .i64 m, .int .i64 t, .int .i64 i, .string s0] (by rfl) (by rfl) (World.news_of_block (cs := #[.int .i64 k, .string fr, .string p, .int .i64 m, .int .i64 t, .int .i64 i, .string s0]) (t := 80) (fr := (0, 0)) (show (w6.alloc _).drew.heap[w6.heap.size]? = _ from heap_alloc_new w6 _)) (by simp [Value.oneCell'])
        (by omega) (by unfold maxLen; omega) (by omega) (by simp; omega) (w6.heap.size + 1) (by simp) ?_; intro gg cap w8 own8 hg8 hat8 hlt8; have KF8 : Blk w8 F 74 _ := KF9.out.grown hg8 (fun e => own_blk_ne O9 KF9.out (by decide) e.symm); have f8 := KF8.frozen 2; have KX8 : Blk w8 X 80 _ := KX9.out.grown hg8 (fun e => ONX.out e.symm); have z8 := ZZ.out w8 (KF8.cell 2) KX8; have T8 := (show TreeIs (w6.alloc (.cells #[.int .i64 k, .string fr, .string p, .int .i64 m, .int .i64 t, .int .i64 i, .string s0] 80)).drew bf (N + 1) T' from F6.out.f.alloc (.cells #[.int .i64 k, .string fr, .string p, .int .i64 m, .int .i64 t, .int .i64 i, .string s0] 80)).kept hg8 (fun e => own_tree_ne O9 (show TreeIs (w6.alloc (.cells #[.int .i64 k, .string fr, .string p, .int .i64 m, .int .i64 t, .int .i64 i, .string s0] 80)).drew bf (N + 1) T' from F6.out.f.alloc (.cells #[.int .i64 k, .string fr, .string p, .int .i64 m, .int .i64 t, .int .i64 i, .string s0] 80)) e.symm); have S8 := (show TreeIs (w6.alloc (.cells #[.int .i64 k, .string fr, .string p, .int .i64 m, .int .i64 t, .int .i64 i, .string s0] 80)).drew bs (N + 1) S from F6.out.s.alloc (.cells #[.int .i64 k, .string fr, .string p, .int .i64 m, .int .i64 t, .int .i64 i, .string s0] 80)).kept hg8 (fun e => own_tree_ne O9 (show TreeIs (w6.alloc (.cells #[.int .i64 k, .string fr, .string p, .int .i64 m, .int .i64 t, .int .i64 i, .string s0] 80)).drew bs (N + 1) S from F6.out.s.alloc (.cells #[.int .i64 k, .string fr, .string p, .int .i64 m, .int .i64 t, .int .i64 i, .string s0] 80)) e.symm); have K8 := V9.kept hg8 (own_own_ne V9 O9 (by decide)).symm; have D8 := Turns.trans (X := Loc.foot ⟨F, bf, bs, vp, vk⟩) (Turns.trans D6.out (Turns.of_below ((Below.refl _ w6).alloc (Nat.le_refl _) (.cells #[.int .i64 k, .string fr, .string p, .int .i64 m, .int .i64 t, .int .i64 i, .string s0] 80)))) (show Turns (w6.alloc (.cells #[.int .i64 k, .string fr, .string p, .int .i64 m, .int .i64 t, .int .i64 i, .string s0] 80)) w8 (Loc.foot ⟨F, bf, bs, vp, vk⟩) from ⟨hg8.os, hg8.tape, hg8.output, hg8.size, fun k hk hx => hg8.block k hk (fun e => hx (.inr (.inr (.inr e.symm))))⟩)))
  all_goals
    have F8 : FsIs w8 F bf bs (N + 1) T' S vp q now ino' ops off 0 vk := ⟨KF8, T8, S8, F6.out.ne⟩
    have F9 := Lib.hid (F8.setPend (.slice (some ⟨gg, 0, none⟩) (ps.length + 1) cap))
    have P9 := Lib.hid (own8.kept (grown_cellF w8 F 2 (.slice (some ⟨gg, 0, none⟩) (ps.length + 1) cap)) (Or.inr (own_blk_ne own8 KF8 (by decide))))
    have V8 := Lib.hid (K8.kept (grown_cellF w8 F 2 (.slice (some ⟨gg, 0, none⟩) (ps.length + 1) cap)) (Or.inr (own_blk_ne K8 KF8 (by decide))))
    have D9 := Lib.hid (D8.trans (Turns.of_grown (X := Loc.foot ⟨F, bf, bs, vp, vk⟩) (grown_cellF w8 F 2 (.slice (some ⟨gg, 0, none⟩) (ps.length + 1) cap)) (.inl rfl)))
    have HAT := Lib.hid (show vp.ownBlock = some gg ∨ w.heap.size ≤ gg from hat8.imp id (fun e => by have := D6.out.size; omega))
    have y6 := F9.out.x.cell 6
    have yf := F9.out.x.frozen 6
    have hops := HN.out.2.2
    clear z8 f8 T8 S8 D8 KX8 KF8 F8 own8 hg8 hat8 hlt8 K8 z0 z7 z9 O7 O9 V7 V9 ZZ KF7 KX7 KF9 KX9 g2 g9 v0 v1 v2 v3 v4 v5 v6 x0 x1 x2 x3 x4 x5 x6 F6 HX6 D6 O6 V6
    go_wp2
    go_ret
    refine ⟨⟨F, bf, bs, .slice (some ⟨gg, 0, none⟩) (ps.length + 1) cap, vk⟩, rfl, ⟨?_, ?_, ?_, HLO.out, ?_, HSS.out, ?_⟩, rfl, ?_, ?_⟩
    · have := F9.out.setOps (ops + 1)
      rw [HT'.out] at this
      exact this
    · have hQ := P9.out.kept (grown_cellF _ F 6 (.int .i64 (ops + 1))) (Or.inr (own_blk_ne P9.out F9.out.x (by decide)))
      show World.ownsRow _ B 80 7 _ (ps ++ [_]).length ((ps ++ [_]).flatMap cO)
      rw [List.length_append, List.flatMap_append]
      exact hQ
    · exact V8.out.kept (grown_cellF _ F 6 (.int .i64 (ops + 1))) (Or.inr (own_blk_ne V8.out F9.out.x (by decide)))
    · exact HST.out.do_ HOK.out
    · intro o ho
      rcases List.mem_append.1 ho with ho | ho
      · exact HSO.out o ho
      · obtain rfl := List.mem_singleton.1 ho
        exact HOK.out
    · intro j hj
      rcases hj with rfl | rfl | rfl | e
      · exact .inl (.inl rfl)
      · exact .inl (.inr (.inl rfl))
      · exact .inl (.inr (.inr (.inl rfl)))
      · obtain rfl : gg = j := by simpa [Value.ownBlock] using e
        exact HAT.out.imp (fun e => .inr (.inr (.inr e))) id
    · exact D9.out.trans (Turns.of_grown (grown_cellF _ F 6 (.int .i64 (ops + 1))) (.inl rfl))
set_option maxRecDepth 100000 in
set_option maxHeartbeats 8000000 in
theorem step_upka {w : World} {B N : Nat} {L : Loc} {D : DK} (h : DiskIs w B L N D) (k : Int) (hk : k = 1 ∨ k = 2) (fr p : ByteArray) (m t i : Int) (s0 : ByteArray) (mode : Int) (v : Value) (ha : 2 ≤ D.armed) (ha2 : D.armed ≤ 9223372036854775807) (hfr : fr.size ≤ 1000) (hpp : p.size ≤ 1000) (hN : N ≤ 1000000) (hp : D.ps.length ≤ 100000) (hB : B ≤ w.heap.size) (h0 : 0 ≤ D.ino) (h1 : D.ino ≤ 1000000) (o0 : 0 ≤ D.ops) (o1 : D.ops ≤ 1000000) :
    Calls Tryd.prog 56 #[.pointer (some ⟨L.F, 0, none⟩), .agg (opC k fr p m t i s0), .int .i64 mode, v] w fun e w' => ∃ L', e = .returned (.int .i64 0) ∧ DiskIs w' B L' (N + 1) { D with T := doO D.T (k, fr, p, m, t, i, s0), ps := D.ps ++ [(k, fr, p, m, t, i, s0)], ino := D.ino, ops := D.ops + 1, armed := D.armed - 1 } ∧ Next w L w' L' := by
  have hX0 := h.alloc (.cells (opC k fr p m t i s0) 80)
  have hd1 := hX0.setArmed (D.armed - 1)
  have NX := (Next.alloc w L (.cells (opC k fr p m t i s0) 80)).trans (Next.cell _ L 8 (.int .i64 (D.armed - 1)))
  have X0 := (Blk.new w 80 (opC k fr p m t i s0)).far (p := ⟨L.F, 8, none⟩) (by have := h.fs.x.lt; show w.heap.size ≠ L.F; omega) (.int .i64 (D.armed - 1))
  obtain ⟨F, bf, bs, vp, vk⟩ := L
  obtain ⟨T, S, ps, q, now, ino, ops, off, armed, ks⟩ := D
  dsimp only at ha ha2 hp h0 h1 o0 o1 hd1 NX X0 ⊢
  have c8 := hX0.fs.x.cell 8
  have f8 := hX0.fs.x.frozen 8
  have HLO := Lib.hid h.lo
  have HST := Lib.hid h.sT
  have HSS := Lib.hid h.sS
  have HSO := Lib.hid h.so
  have HB := Lib.hid hB
  have HN := Lib.hid (And.intro hN (And.intro hp (And.intro o0 o1)))
  have HI := Lib.hid (And.intro h0 h1)
  have HFR := Lib.hid (And.intro hfr hpp)
  dsimp only at HLO HST HSS HSO
  have FNE : Hid (w.heap.size ≠ F) := Lib.hid (by have := h.fs.x.lt; dsimp only at this; omega)
  have ONX := Lib.hid (show vp.ownBlock ≠ some w.heap.size from fun e => by have := (h.ps.lt _ e).2; omega)
  have HD1 := Lib.hid hd1
  have HNX := Lib.hid NX
  have HX0 := Lib.hid X0
  clear h hX0 hd1 NX X0 hN hp o0 o1 h0 h1 hfr hpp hB
  obtain ⟨a1, ha1⟩ : ∃ a : Int, a = armed - 1 := ⟨_, rfl⟩
  rw [← ha1] at HD1 HNX HX0 ⊢
  have hd8 : decide (0 < armed) = true := decide_eq_true (by omega)
  have hq8 : (armed - 1 == 0) = false := by rw [beq_eq_false_iff_ne]; omega
  go_enter Tryd.func56, Tryd.ntmps56
  have d8 := HD1.out.fs.x.cell 8
  go_upto_region 6 with fail
  clear c8 f8 d8 hd8 hq8
  rw [← ha1]
  generalize hW : (w.alloc (.cells (opC k fr p m t i s0) 80)).setCell ⟨F, 8, none⟩ (.int .i64 (a1)) = W1 at *
  clear hW ha1 ha ha2
  obtain ⟨X, hX⟩ : ∃ X, X = w.heap.size := ⟨_, rfl⟩
  rw [← hX] at HX0 FNE ONX ⊢
  clear hX
  have c0 := HX0.out.cell 0
  have hk0 : (k == 0) = false := by rcases hk with rfl | rfl <;> rfl
  obtain ⟨ino', hino⟩ : ∃ x, x = ino := ⟨_, rfl⟩
  have HOK := Lib.hid (show okO (k, fr, p, m, t, i, s0) from ⟨.inr hk, HFR.out.1, HFR.out.2⟩)
  subst hino
  clear hk
  go_upto_region 8 with fail
  clear c0 hk0
  obtain ⟨W3, hW3⟩ : ∃ W3, W3 = W1 := ⟨_, rfl⟩
  have F3 := Lib.hid HD1.out.fs
  have X3 := Lib.hid HX0.out
  have O3 := Lib.hid HD1.out.ps
  have V3 := Lib.hid HD1.out.ks
  have D3 := Lib.hid HNX.out.t
  dsimp only at F3 O3 V3 D3
  rw [← hW3] at F3 X3 O3 V3 D3 ⊢
  clear hW3 HD1 HX0 HNX FNE
  have z0 : W3.drew.cell? ⟨F, 0, none⟩ = some (.map (some bf)) ∧ W3.drew.cell? ⟨X, 0, none⟩ = some (.int .i64 k) ∧ W3.drew.cell? ⟨X, 1, none⟩ = some (.string fr) ∧ W3.drew.cell? ⟨X, 2, none⟩ = some (.string p) ∧ W3.drew.cell? ⟨X, 3, none⟩ = some (.int .i64 m) ∧ W3.drew.cell? ⟨X, 4, none⟩ = some (.int .i64 t) ∧ W3.drew.cell? ⟨X, 5, none⟩ = some (.int .i64 i) ∧ W3.drew.cell? ⟨X, 6, none⟩ = some (.string s0) :=
    ⟨F3.out.x.cell 0, X3.out.cell 0, X3.out.cell 1, X3.out.cell 2, X3.out.cell 3, X3.out.cell 4, X3.out.cell 5, X3.out.cell 6⟩
  have DW := Lib.hid (show Calls Tryd.prog 40 #[.map (some bf), .agg #[.int .i64 k, .string fr, .string p, .int .i64 m, .int .i64 t, .int .i64 i, .string s0]] W3.drew fun e w'' => e = .returned (.tuple #[]) ∧ TreeIs w'' bf (N + 1) (doO T (k, fr, p, m, t, i, s0)) ∧ W3.drew.grownBy w'' (some bf) from
    do_any W3.drew bf N T (k, fr, p, m, t, i, s0) F3.out.f (by have := HN.out.1; unfold maxLen; omega) (by have := HOK.out.2.1; dsimp only at this ⊢; unfold maxLen; omega) (by have := HOK.out.2.2; dsimp only at this ⊢; unfold maxLen; omega) HOK.out.1)
  have XB := Lib.hid (blk_tree_ne X3.out F3.out.f)
  have FB := Lib.hid (blk_tree_ne F3.out.x F3.out.f)
  go_region_held3 (fun w' => w'.cell? ⟨F, 0, none⟩ = some (.map (some bf)) ∧ w'.cell? ⟨X, 0, none⟩ = some (.int .i64 k) ∧ w'.cell? ⟨X, 1, none⟩ = some (.string fr) ∧ w'.cell? ⟨X, 2, none⟩ = some (.string p) ∧ w'.cell? ⟨X, 3, none⟩ = some (.int .i64 m) ∧ w'.cell? ⟨X, 4, none⟩ = some (.int .i64 t) ∧ w'.cell? ⟨X, 5, none⟩ = some (.int .i64 i) ∧ w'.cell? ⟨X, 6, none⟩ = some (.string s0))
    (first | exact z0 | exact z6)
    ((go_at_call 40; (with_reducible refine DW.out.mono ?_); rintro e w6 ⟨rfl, T6, G5⟩; have G6 : W3.grownBy w6 (some bf) := ⟨G5.os, G5.tape, G5.output, G5.size, G5.block⟩; have X6 : Blk w6 X 80 _ := X3.out.grown G6 (fun e => XB.out (Option.some.inj e)); have K6 : Blk w6 F 74 _ := F3.out.x.grown G6 (fun e => FB.out (Option.some.inj e)); have z6 := And.intro (K6.cell 0) (And.intro (X6.cell 0) (And.intro (X6.cell 1) (And.intro (X6.cell 2) (And.intro (X6.cell 3) (And.intro (X6.cell 4) (And.intro (X6.cell 5) (X6.cell 6)))))))))
  have O6 := Lib.hid (show w6.ownsRow B 80 7 vp ps.length (ps.flatMap cO) from O3.out.kept G6 (Or.inr (own_tree_ne O3.out F3.out.f)))
  have V6 := Lib.hid (show w6.ownsRow B 4 1 vk ks.length (ks.flatMap cB) from V3.out.kept G6 (Or.inr (own_tree_ne V3.out F3.out.f)))
  obtain ⟨T', hT'⟩ : ∃ T', T' = doO T (k, fr, p, m, t, i, s0) := ⟨_, rfl⟩
  have HT' := Lib.hid hT'
  rw [← hT'] at T6
  have F6 := Lib.hid (show FsIs w6 F bf bs (N + 1) T' S vp q now ino' ops off a1 vk from ⟨K6, T6, (F3.out.s.kept G6 (fun e => F3.out.ne (Option.some.inj e).symm)).mono (Nat.le_succ _), F3.out.ne⟩)
  have HX6 := Lib.hid X6
  have D6 := Lib.hid (D3.out.trans (Turns.of_grown (X := Loc.foot ⟨F, bf, bs, vp, vk⟩) G6 (.inr (.inl rfl))))
  clear z0 z6 G5 G6 T6 X6 K6 DW XB FB F3 X3 O3 D3 V3 hT'
  obtain ⟨i0, hi, hz0, hz1, hz2⟩ := info_parts opInfo
  have ZZ := Lib.hid fun W (h2 : W.cell? ⟨F, 2, none⟩ = some vp) (hx : Blk W X 80 #[.int .i64 k, .string fr, .string p, .int .i64 m, .int .i64 t, .int .i64 i, .string s0]) => (⟨h2, hx.cell 0, hx.cell 1, hx.cell 2, hx.cell 3, hx.cell 4, hx.cell 5, hx.cell 6⟩ : W.cell? ⟨F, 2, none⟩ = some vp ∧ W.cell? ⟨X, 0, none⟩ = some (.int .i64 k) ∧ W.cell? ⟨X, 1, none⟩ = some (.string fr) ∧ W.cell? ⟨X, 2, none⟩ = some (.string p) ∧ W.cell? ⟨X, 3, none⟩ = some (.int .i64 m) ∧ W.cell? ⟨X, 4, none⟩ = some (.int .i64 t) ∧ W.cell? ⟨X, 5, none⟩ = some (.int .i64 i) ∧ W.cell? ⟨X, 6, none⟩ = some (.string s0))
  have z0 := ZZ.out w6.drew (F6.out.x.cell 2) HX6.out
  have z7 := ZZ.out (w6.drew.alloc (.cells #[.int .i64 k, .string fr, .string p, .int .i64 m, .int .i64 t, .int .i64 i, .string s0] 80)) (((show Blk w6.drew F 74 _ from F6.out.x).alloc (.cells #[.int .i64 k, .string fr, .string p, .int .i64 m, .int .i64 t, .int .i64 i, .string s0] 80)).cell 2) ((show Blk w6.drew X 80 _ from HX6.out).alloc (.cells #[.int .i64 k, .string fr, .string p, .int .i64 m, .int .i64 t, .int .i64 i, .string s0] 80))
  have KF7 := Lib.hid ((show Blk w6.drew F 74 _ from F6.out.x).alloc (.cells #[.int .i64 k, .string fr, .string p, .int .i64 m, .int .i64 t, .int .i64 i, .string s0] 80))
  have KX7 := Lib.hid ((show Blk w6.drew X 80 _ from HX6.out).alloc (.cells #[.int .i64 k, .string fr, .string p, .int .i64 m, .int .i64 t, .int .i64 i, .string s0] 80))
  have KF9 := Lib.hid (show Blk (w6.alloc (.cells #[.int .i64 k, .string fr, .string p, .int .i64 m, .int .i64 t, .int .i64 i, .string s0] 80)).drew F 74 _ from F6.out.x.alloc (.cells #[.int .i64 k, .string fr, .string p, .int .i64 m, .int .i64 t, .int .i64 i, .string s0] 80))
  have KX9 := Lib.hid (show Blk (w6.alloc (.cells #[.int .i64 k, .string fr, .string p, .int .i64 m, .int .i64 t, .int .i64 i, .string s0] 80)).drew X 80 _ from HX6.out.alloc (.cells #[.int .i64 k, .string fr, .string p, .int .i64 m, .int .i64 t, .int .i64 i, .string s0] 80))
  have hb6 : B ≤ w6.heap.size := Nat.le_trans HB.out D6.out.size
  have hk6 : ps.length ≤ 100000 := HN.out.2.1
  have O7 : (w6.drew.alloc (.cells #[.int .i64 k, .string fr, .string p, .int .i64 m, .int .i64 t, .int .i64 i, .string s0] 80)).ownsRow B 80 7 vp ps.length (ps.flatMap cO) := (show w6.drew.ownsRow B 80 7 vp ps.length (ps.flatMap cO) from O6.out).alloc _
  have V7 : (w6.drew.alloc (.cells #[.int .i64 k, .string fr, .string p, .int .i64 m, .int .i64 t, .int .i64 i, .string s0] 80)).ownsRow B 4 1 vk ks.length (ks.flatMap cB) := (show w6.drew.ownsRow B 4 1 vk ks.length (ks.flatMap cB) from V6.out).alloc _
  go_wp2
  have Fl : F < w6.drew.heap.size := F6.out.x.lt
  have Xl : X < w6.drew.heap.size := HX6.out.lt
  have g2 := z0.1
  have z9 := ZZ.out (w6.alloc (.cells #[.int .i64 k, .string fr, .string p, .int .i64 m, .int .i64 t, .int .i64 i, .string s0] 80)) ((F6.out.x.alloc (.cells #[.int .i64 k, .string fr, .string p, .int .i64 m, .int .i64 t, .int .i64 i, .string s0] 80)).cell 2) (HX6.out.alloc (.cells #[.int .i64 k, .string fr, .string p, .int .i64 m, .int .i64 t, .int .i64 i, .string s0] 80))
  have g9 := z9.1
  have v0 := z9.2.1
  have v1 := z9.2.2.1
  have v2 := z9.2.2.2.1
  have v3 := z9.2.2.2.2.1
  have v4 := z9.2.2.2.2.2.1
  have v5 := z9.2.2.2.2.2.2.1
  have v6 := z9.2.2.2.2.2.2.2
  have O9 : (w6.alloc (.cells #[.int .i64 k, .string fr, .string p, .int .i64 m, .int .i64 t, .int .i64 i, .string s0] 80)).drew.ownsRow B 80 7 vp ps.length (ps.flatMap cO) := (show w6.ownsRow B 80 7 vp ps.length (ps.flatMap cO) from O6.out).alloc _
  have V9 : (w6.alloc (.cells #[.int .i64 k, .string fr, .string p, .int .i64 m, .int .i64 t, .int .i64 i, .string s0] 80)).drew.ownsRow B 4 1 vk ks.length (ks.flatMap cB) := (show w6.ownsRow B 4 1 vk ks.length (ks.flatMap cB) from V6.out).alloc _
  have x0 := z0.2.1
  have x1 := z0.2.2.1
  have x2 := z0.2.2.2.1
  have x3 := z0.2.2.2.2.1
  have x4 := z0.2.2.2.2.2.1
  have x5 := z0.2.2.2.2.2.2.1
  have x6 := z0.2.2.2.2.2.2.2
  go_region_law
    (first
    | (refine step_append_lies _ (by rfl) _ _ 72 (by rfl) B 80 i0 (.agg #[.int .i64 0, .string ⟨#[]⟩, .string ⟨#[]⟩, .int .i64 0, .int .i64 0, .int .i64 0, .string ⟨#[]⟩]) 7 80 Tryd.underlying72 hi hz0 hz1 hz2 rfl (by omega) _ ps.length _ (by rfl) O7
        ⟨w6.heap.size, 0, none⟩ 1 1 [.int .i64 k, .string fr, .string p, .int .i64 m, .int .i64 t, .int .i64 i, .string s0] (by rfl) (by rfl) (World.news_of_block (cs := #[.int .i64 k, .string fr, .string p, .int .i64 m, .int .i64 t, .int .i64 i, .string s0]) (t := 80) (fr := (0, 0)) (heap_alloc_new w6.drew _)) (by simp [Value.oneCell'])
        (by omega) (by unfold maxLen; omega) (by omega) (by simp; omega) (w6.heap.size + 1) (by simp) ?_; intro gg cap w8 own8 hg8 hat8 hlt8; have KF8 : Blk w8 F 74 _ := KF7.out.grown hg8 (fun e => own_blk_ne O7 KF7.out (by decide) e.symm); have f8 := KF8.frozen 2; have KX8 : Blk w8 X 80 _ := KX7.out.grown hg8 (fun e => ONX.out e.symm); have z8 := ZZ.out w8 (KF8.cell 2) KX8; have T8 := ((show TreeIs w6.drew bf (N + 1) T' from F6.out.f).alloc (.cells #[.int .i64 k, .string fr, .string p, .int .i64 m, .int .i64 t, .int .i64 i, .string s0] 80)).kept hg8 (fun e => own_tree_ne O7 ((show TreeIs w6.drew bf (N + 1) T' from F6.out.f).alloc (.cells #[.int .i64 k, .string fr, .string p, .int .i64 m, .int .i64 t, .int .i64 i, .string s0] 80)) e.symm); have S8 := ((show TreeIs w6.drew bs (N + 1) S from F6.out.s).alloc (.cells #[.int .i64 k, .string fr, .string p, .int .i64 m, .int .i64 t, .int .i64 i, .string s0] 80)).kept hg8 (fun e => own_tree_ne O7 ((show TreeIs w6.drew bs (N + 1) S from F6.out.s).alloc (.cells #[.int .i64 k, .string fr, .string p, .int .i64 m, .int .i64 t, .int .i64 i, .string s0] 80)) e.symm); have K8 := V7.kept hg8 (own_own_ne V7 O7 (by decide)).symm; have D8 := Turns.trans (X := Loc.foot ⟨F, bf, bs, vp, vk⟩) (Turns.trans D6.out (Turns.of_below ((Below.refl _ w6).alloc (Nat.le_refl _) (.cells #[.int .i64 k, .string fr, .string p, .int .i64 m, .int .i64 t, .int .i64 i, .string s0] 80)))) (show Turns (w6.alloc (.cells #[.int .i64 k, .string fr, .string p, .int .i64 m, .int .i64 t, .int .i64 i, .string s0] 80)) w8 (Loc.foot ⟨F, bf, bs, vp, vk⟩) from ⟨hg8.os, hg8.tape, hg8.output, hg8.size, fun k hk hx => hg8.block k hk (fun e => hx (.inr (.inr (.inr e.symm))))⟩))
    | (refine step_append_lies _ (by rfl) _ _ 72 (by rfl) B 80 i0 (.agg #[.int .i64 0, .string ⟨#[]⟩, .string ⟨#[]⟩, .int .i64 0, .int .i64 0, .int .i64 0, .string ⟨#[]⟩]) 7 80 Tryd.underlying72 hi hz0 hz1 hz2 rfl (by omega) _ ps.length _ (by rfl) O9
        ⟨w6.heap.size, 0, none⟩ 1 1 [.int .i64 k, .string fr, .string p, .int .i64 m, .int .i64 t, .int .i64 i, .string s0] (by rfl) (by rfl) (World.news_of_block (cs := #[.int .i64 k, .string fr, .string p, .int .i64 m, .int .i64 t, .int .i64 i, .string s0]) (t := 80) (fr := (0, 0)) (show (w6.alloc _).drew.heap[w6.heap.size]? = _ from heap_alloc_new w6 _)) (by simp [Value.oneCell'])
        (by omega) (by unfold maxLen; omega) (by omega) (by simp; omega) (w6.heap.size + 1) (by simp) ?_; intro gg cap w8 own8 hg8 hat8 hlt8; have KF8 : Blk w8 F 74 _ := KF9.out.grown hg8 (fun e => own_blk_ne O9 KF9.out (by decide) e.symm); have f8 := KF8.frozen 2; have KX8 : Blk w8 X 80 _ := KX9.out.grown hg8 (fun e => ONX.out e.symm); have z8 := ZZ.out w8 (KF8.cell 2) KX8; have T8 := (show TreeIs (w6.alloc (.cells #[.int .i64 k, .string fr, .string p, .int .i64 m, .int .i64 t, .int .i64 i, .string s0] 80)).drew bf (N + 1) T' from F6.out.f.alloc (.cells #[.int .i64 k, .string fr, .string p, .int .i64 m, .int .i64 t, .int .i64 i, .string s0] 80)).kept hg8 (fun e => own_tree_ne O9 (show TreeIs (w6.alloc (.cells #[.int .i64 k, .string fr, .string p, .int .i64 m, .int .i64 t, .int .i64 i, .string s0] 80)).drew bf (N + 1) T' from F6.out.f.alloc (.cells #[.int .i64 k, .string fr, .string p, .int .i64 m, .int .i64 t, .int .i64 i, .string s0] 80)) e.symm); have S8 := (show TreeIs (w6.alloc (.cells #[.int .i64 k, .string fr, .string p, .int .i64 m, .int .i64 t, .int .i64 i, .string s0] 80)).drew bs (N + 1) S from F6.out.s.alloc (.cells #[.int .i64 k, .string fr, .string p, .int .i64 m, .int .i64 t, .int .i64 i, .string s0] 80)).kept hg8 (fun e => own_tree_ne O9 (show TreeIs (w6.alloc (.cells #[.int .i64 k, .string fr, .string p, .int .i64 m, .int .i64 t, .int .i64 i, .string s0] 80)).drew bs (N + 1) S from F6.out.s.alloc (.cells #[.int .i64 k, .string fr, .string p, .int .i64 m, .int .i64 t, .int .i64 i, .string s0] 80)) e.symm); have K8 := V9.kept hg8 (own_own_ne V9 O9 (by decide)).symm; have D8 := Turns.trans (X := Loc.foot ⟨F, bf, bs, vp, vk⟩) (Turns.trans D6.out (Turns.of_below ((Below.refl _ w6).alloc (Nat.le_refl _) (.cells #[.int .i64 k, .string fr, .string p, .int .i64 m, .int .i64 t, .int .i64 i, .string s0] 80)))) (show Turns (w6.alloc (.cells #[.int .i64 k, .string fr, .string p, .int .i64 m, .int .i64 t, .int .i64 i, .string s0] 80)) w8 (Loc.foot ⟨F, bf, bs, vp, vk⟩) from ⟨hg8.os, hg8.tape, hg8.output, hg8.size, fun k hk hx => hg8.block k hk (fun e => hx (.inr (.inr (.inr e.symm))))⟩)))
  all_goals
    have F8 : FsIs w8 F bf bs (N + 1) T' S vp q now ino' ops off a1 vk := ⟨KF8, T8, S8, F6.out.ne⟩
    have F9 := Lib.hid (F8.setPend (.slice (some ⟨gg, 0, none⟩) (ps.length + 1) cap))
    have P9 := Lib.hid (own8.kept (grown_cellF w8 F 2 (.slice (some ⟨gg, 0, none⟩) (ps.length + 1) cap)) (Or.inr (own_blk_ne own8 KF8 (by decide))))
    have V8 := Lib.hid (K8.kept (grown_cellF w8 F 2 (.slice (some ⟨gg, 0, none⟩) (ps.length + 1) cap)) (Or.inr (own_blk_ne K8 KF8 (by decide))))
    have D9 := Lib.hid (D8.trans (Turns.of_grown (X := Loc.foot ⟨F, bf, bs, vp, vk⟩) (grown_cellF w8 F 2 (.slice (some ⟨gg, 0, none⟩) (ps.length + 1) cap)) (.inl rfl)))
    have HAT := Lib.hid (show vp.ownBlock = some gg ∨ w.heap.size ≤ gg from hat8.imp id (fun e => by have := D6.out.size; omega))
    have y6 := F9.out.x.cell 6
    have yf := F9.out.x.frozen 6
    have hops := HN.out.2.2
    clear z8 f8 T8 S8 D8 KX8 KF8 F8 own8 hg8 hat8 hlt8 K8 z0 z7 z9 O7 O9 V7 V9 ZZ KF7 KX7 KF9 KX9 g2 g9 v0 v1 v2 v3 v4 v5 v6 x0 x1 x2 x3 x4 x5 x6 F6 HX6 D6 O6 V6
    go_wp2
    go_ret
    refine ⟨⟨F, bf, bs, .slice (some ⟨gg, 0, none⟩) (ps.length + 1) cap, vk⟩, rfl, ⟨?_, ?_, ?_, HLO.out, ?_, HSS.out, ?_⟩, rfl, ?_, ?_⟩
    · have := F9.out.setOps (ops + 1)
      rw [HT'.out] at this
      exact this
    · have hQ := P9.out.kept (grown_cellF _ F 6 (.int .i64 (ops + 1))) (Or.inr (own_blk_ne P9.out F9.out.x (by decide)))
      show World.ownsRow _ B 80 7 _ (ps ++ [_]).length ((ps ++ [_]).flatMap cO)
      rw [List.length_append, List.flatMap_append]
      exact hQ
    · exact V8.out.kept (grown_cellF _ F 6 (.int .i64 (ops + 1))) (Or.inr (own_blk_ne V8.out F9.out.x (by decide)))
    · exact HST.out.do_ HOK.out
    · intro o ho
      rcases List.mem_append.1 ho with ho | ho
      · exact HSO.out o ho
      · obtain rfl := List.mem_singleton.1 ho
        exact HOK.out
    · intro j hj
      rcases hj with rfl | rfl | rfl | e
      · exact .inl (.inl rfl)
      · exact .inl (.inr (.inl rfl))
      · exact .inl (.inr (.inr (.inl rfl)))
      · obtain rfl : gg = j := by simpa [Value.ownBlock] using e
        exact HAT.out.imp (fun e => .inr (.inr (.inr e))) id
    · exact D9.out.trans (Turns.of_grown (grown_cellF _ F 6 (.int .i64 (ops + 1))) (.inl rfl))
end Go.Proofs.YtcnmlgmlijgmhaaDoor
