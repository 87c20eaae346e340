/-
  simfs.step of a write, the disk not armed.
-/
import Derived.Test.YtcnmlgmlijgmhaaDoorSfO
import Derived.Test.YtcnmlgmlijgmhaaDoorMOps
namespace Go.Proofs.YtcnmlgmlijgmhaaDoor
open Go Go.RowKit Go.Maps

theorem own_tree_ne {w : World} {B k n m b : Nat} {e : TypeId} {v : Value} {xs : List Value} {T : Tr} (h : w.ownsRow B e k v n xs) (g : TreeIs w b m T) : v.ownBlock ≠ some b := by
  rcases h.2 with ⟨rfl, _⟩ | ⟨g0, cap, cur, rfl, _, hb, _⟩
  · intro e; simp [Value.ownBlock] at e
  · intro e
    have hne := blk_tree_ne (show Blk w g0 _ cur from hb) g
    exact hne (by simpa [Value.ownBlock] using e)
theorem FsIs.farSet {w : World} {F bf bs n : Nat} {T S : Tr} {vp : Value} {q now ino ops : Int} {off : Bool} {armed : Int} {vk : Value} (h : FsIs w F bf bs n T S vp q now ino ops off armed vk) {g : Nat} (j : Nat) (u : Value) (hF : g ≠ F) (hb : g ≠ bf) (hs : g ≠ bs) : FsIs (w.setCell ⟨g, j, none⟩ u) F bf bs n T S vp q now ino ops off armed vk :=
  ⟨h.x.far (fun e => hF e.symm) _, h.f.setCell hb.symm _, h.s.setCell hs.symm _, h.ne⟩
set_option maxRecDepth 100000 in
set_option maxHeartbeats 8000000 in
theorem step_write {w : World} {F bf bs n : Nat} {T S : Tr} {vp : Value} {q now ino ops : Int} {off : Bool} {vk : Value} (h : FsIs w F bf bs n T S vp q now ino ops off 0 vk) (B : Nat) (ps : List Ov) (hB : B ≤ w.heap.size) (hB1 : B ≤ F) (hB2 : B ≤ bf)
    (hps : w.ownsRow B 80 7 vp ps.length (ps.flatMap cO)) (hk : ps.length ≤ 100000) (p : ByteArray) (mode : Int) (v : Value) (s : ByteArray) (hp : p.size ≤ 1000000) (hv : ∀ w', Below w.heap.size w w' → BytesOf w' F v s) (hn : n ≤ 1000000) (h0 : 0 ≤ ino) (h1 : ino ≤ 1000000) (o0 : 0 ≤ ops) (o1 : ops ≤ 1000000) :
    Calls Tryd.prog 56 #[.pointer (some ⟨F, 0, none⟩), .agg #[.int .i64 0, .string ⟨#[]⟩, .string p, .int .i64 0, .int .i64 0, .int .i64 0, .string ⟨#[]⟩], .int .i64 mode, v] w fun e w' => ∃ vp', e = .returned (.int .i64 0) ∧
      FsIs w' F bf bs (n + 1) (putT T p ⟨mode, now, inoOf T p ino, s⟩) S vp' q now (inoNew T p ino) (ops + 1) off 0 vk ∧ w'.ownsRow B 80 7 vp' (ps ++ [((0 : Int), (⟨#[]⟩ : ByteArray), p, mode, now, inoOf T p ino, s)]).length ((ps ++ [((0 : Int), (⟨#[]⟩ : ByteArray), p, mode, now, inoOf T p ino, s)]).flatMap cO) ∧ Below B w w' := by
  have d1 := (Below.refl w.heap.size w).alloc (Nat.le_refl _) (.cells #[.int .i64 0, .string ⟨#[]⟩, .string p, .int .i64 0, .int .i64 0, .int .i64 0, .string ⟨#[]⟩] 80)
  have FS1 := h.below d1
  have HFS := Lib.hid FS1
  have X1 := Lib.hid (Blk.new w 80 #[.int .i64 0, .string ⟨#[]⟩, .string p, .int .i64 0, .int .i64 0, .int .i64 0, .string ⟨#[]⟩])
  have FR := Lib.hid (fresh_any FS1 p mode v s (by unfold maxLen; omega) (hv _ d1) h0 (by omega))
  have O1 := Lib.hid (hps.alloc (.cells #[.int .i64 0, .string ⟨#[]⟩, .string p, .int .i64 0, .int .i64 0, .int .i64 0, .string ⟨#[]⟩] 80))
  have D1 := Lib.hid (d1.mono hB)
  have x8 := FS1.x.cell 8
  have OLT := Lib.hid (fun z (hz : vp.ownBlock = some z) => (hps.lt z hz).2)
  have FNE : Hid (w.heap.size ≠ F) := Lib.hid (by have := h.x.lt; omega)
  have HN := Lib.hid (And.intro hn (And.intro hp (And.intro o0 o1)))
  have HB := Lib.hid (And.intro hB (And.intro hB1 hB2))
  have HKK := Lib.hid hk
  clear d1 FS1 h hps hk hp hv hn h0 h1 o0 o1 hB hB1 hB2
  go_enter Tryd.func56, Tryd.ntmps56
  go_wp2_with fail
  refine FR.out.mono ?_
  rintro e w2 ⟨rfl, FS2, G2⟩
  unfold fV
  have X2 : Blk w2 w.heap.size 80 _ := X1.out.grown G2 (fun e => FNE.out (Option.some.inj e))
  have r3 := X2.cell 3
  have r4 := X2.cell 4
  have r5 := X2.cell 5
  have r6 := X2.cell 6
  have q3 := X2.frozen 3
  have q4 := X2.frozen 4
  have q5 := X2.frozen 5
  have q6 := X2.frozen 6
  have HX2 := Lib.hid X2
  have F2 := Lib.hid FS2
  have HG2 := Lib.hid G2
  clear X2 FS2 G2 FR x8
  go_upto_region 8 with fail
  have nF := HX2.out.ne_ F2.out.x (by decide)
  have nb := blk_tree_ne HX2.out F2.out.f
  have ns := blk_tree_ne HX2.out F2.out.s
  have F3 := Lib.hid ((((F2.out.farSet 3 (.int .i64 mode) nF nb ns).farSet 4 (.int .i64 now) nF nb ns).farSet 5 (.int .i64 (inoOf T p ino)) nF nb ns).farSet 6 (.string s) nF nb ns)
  have X3 := Lib.hid (show Blk ((((w2.setCell ⟨w.heap.size, 3, none⟩ (.int .i64 mode)).setCell ⟨w.heap.size, 4, none⟩ (.int .i64 now)).setCell ⟨w.heap.size, 5, none⟩ (.int .i64 (inoOf T p ino))).setCell ⟨w.heap.size, 6, none⟩ (.string s)) w.heap.size 80 #[.int .i64 0, .string ⟨#[]⟩, .string p, .int .i64 mode, .int .i64 now, .int .i64 (inoOf T p ino), .string s] from by
    simpa using (((HX2.out.set_ 3 (.int .i64 mode)).set_ 4 (.int .i64 now)).set_ 5 (.int .i64 (inoOf T p ino))).set_ 6 (.string s))
  have O2 := O1.out.kept HG2.out (Or.inr (own_blk_ne O1.out HFS.out.x (by decide)))
  have on : vp.ownBlock = none ∨ vp.ownBlock ≠ some w.heap.size := Or.inr fun e => by have := OLT.out _ e; omega
  have ONX := Lib.hid (show vp.ownBlock ≠ some w.heap.size from fun e => by have := OLT.out _ e; omega)
  have O3 := Lib.hid ((((O2.kept (grown_cellF _ w.heap.size 3 (.int .i64 mode)) on).kept (grown_cellF _ w.heap.size 4 (.int .i64 now)) on).kept (grown_cellF _ w.heap.size 5 (.int .i64 (inoOf T p ino))) on).kept (grown_cellF _ w.heap.size 6 (.string s)) on)
  have D2 := D1.out.grown HG2.out (Nat.le_trans HB.out.1 (by simp)) (fun z hz => by obtain rfl := Option.some.inj hz; exact HB.out.2.1)
  have D3 := Lib.hid ((((D2.setCell (p := ⟨w.heap.size, 3, none⟩) HB.out.1 (.int .i64 mode)).setCell (p := ⟨w.heap.size, 4, none⟩) HB.out.1 (.int .i64 now)).setCell (p := ⟨w.heap.size, 5, none⟩) HB.out.1 (.int .i64 (inoOf T p ino))).setCell (p := ⟨w.heap.size, 6, none⟩) HB.out.1 (.string s))
  obtain ⟨W3, hW3⟩ : ∃ W3, W3 = (((w2.setCell ⟨w.heap.size, 3, none⟩ (.int .i64 mode)).setCell ⟨w.heap.size, 4, none⟩ (.int .i64 now)).setCell ⟨w.heap.size, 5, none⟩ (.int .i64 (inoOf T p ino))).setCell ⟨w.heap.size, 6, none⟩ (.string s) := ⟨_, rfl⟩
  rw [← hW3] at F3 X3 O3 D3 ⊢
  clear hW3 O2 on D2 nF nb ns HX2 F2 HG2 r3 r4 r5 r6 q3 q4 q5 q6 O1 D1 X1 HFS OLT FNE
  have z0 : W3.drew.cell? ⟨F, 0, none⟩ = some (.map (some bf)) ∧ W3.drew.cell? ⟨w.heap.size, 0, none⟩ = some (.int .i64 0) ∧ W3.drew.cell? ⟨w.heap.size, 1, none⟩ = some (.string ⟨#[]⟩) ∧ W3.drew.cell? ⟨w.heap.size, 2, none⟩ = some (.string p) ∧ W3.drew.cell? ⟨w.heap.size, 3, none⟩ = some (.int .i64 mode) ∧ W3.drew.cell? ⟨w.heap.size, 4, none⟩ = some (.int .i64 now) ∧ W3.drew.cell? ⟨w.heap.size, 5, none⟩ = some (.int .i64 (inoOf T p ino)) ∧ W3.drew.cell? ⟨w.heap.size, 6, none⟩ = some (.string s) :=
    ⟨F3.out.x.cell 0, X3.out.cell 0, X3.out.cell 1, X3.out.cell 2, X3.out.cell 3, X3.out.cell 4, X3.out.cell 5, X3.out.cell 6⟩
  have DW := Lib.hid (show Calls Tryd.prog 40 #[.map (some bf), .agg #[.int .i64 0, .string ⟨#[]⟩, .string p, .int .i64 mode, .int .i64 now, .int .i64 (inoOf T p ino), .string s]] W3.drew fun e w'' => e = .returned (.tuple #[]) ∧ TreeIs w'' bf (n + 1) (putT T p ⟨mode, now, inoOf T p ino, s⟩) ∧ W3.drew.grownBy w'' (some bf) from
    do_write W3.drew bf n T ⟨#[]⟩ p ⟨mode, now, inoOf T p ino, s⟩ F3.out.f (by have := HN.out.1; unfold maxLen; omega) (by have := HN.out.2.1; unfold maxLen; omega))
  have XB := Lib.hid (blk_tree_ne X3.out F3.out.f)
  have FB := Lib.hid (blk_tree_ne F3.out.x F3.out.f)
  obtain ⟨X, hX⟩ : ∃ X, X = w.heap.size := ⟨_, rfl⟩
  have HX := Lib.hid hX
  rw [← hX] at z0 X3 XB ONX ⊢
  clear hX
  go_region_held3 (fun w' => w'.cell? ⟨F, 0, none⟩ = some (.map (some bf)) ∧ w'.cell? ⟨X, 0, none⟩ = some (.int .i64 0) ∧ w'.cell? ⟨X, 1, none⟩ = some (.string ⟨#[]⟩) ∧ w'.cell? ⟨X, 2, none⟩ = some (.string p) ∧ w'.cell? ⟨X, 3, none⟩ = some (.int .i64 mode) ∧ w'.cell? ⟨X, 4, none⟩ = some (.int .i64 now) ∧ w'.cell? ⟨X, 5, none⟩ = some (.int .i64 (inoOf T p ino)) ∧ w'.cell? ⟨X, 6, none⟩ = some (.string s))
    (first | exact z0 | exact z6)
    ((go_at_call 40; (with_reducible refine DW.out.mono ?_); rintro e w6 ⟨rfl, T6, G5⟩; have G6 : W3.grownBy w6 (some bf) := ⟨G5.os, G5.tape, G5.output, G5.size, G5.block⟩; have X6 : Blk w6 X 80 _ := X3.out.grown G6 (fun e => XB.out (Option.some.inj e)); have K6 : Blk w6 F 74 _ := F3.out.x.grown G6 (fun e => FB.out (Option.some.inj e)); have z6 := And.intro (K6.cell 0) (And.intro (X6.cell 0) (And.intro (X6.cell 1) (And.intro (X6.cell 2) (And.intro (X6.cell 3) (And.intro (X6.cell 4) (And.intro (X6.cell 5) (X6.cell 6)))))))))
  have O6 := Lib.hid (show w6.ownsRow B 80 7 vp ps.length (ps.flatMap cO) from O3.out.kept G6 (Or.inr (own_tree_ne O3.out F3.out.f)))
  have F6 := Lib.hid (show FsIs w6 F bf bs (n + 1) (putT T p ⟨mode, now, inoOf T p ino, s⟩) S vp q now (inoNew T p ino) ops off 0 vk from ⟨K6, T6, (F3.out.s.kept G6 (fun e => F3.out.ne (Option.some.inj e).symm)).mono (Nat.le_succ _), F3.out.ne⟩)
  have HX6 := Lib.hid X6
  have D6 := Lib.hid (D3.out.grown G6 (Nat.le_trans HB.out.1 (D3.out.size)) (fun z hz => by obtain rfl := Option.some.inj hz; exact HB.out.2.2))
  clear z0 z6 G5 G6 T6 X6 K6 DW XB FB F3 X3 O3 D3
  obtain ⟨i0, hi, hz0, hz1, hz2⟩ := info_parts opInfo
  have ZZ := Lib.hid fun W (h2 : W.cell? ⟨F, 2, none⟩ = some vp) (hx : Blk W X 80 #[.int .i64 0, .string ⟨#[]⟩, .string p, .int .i64 mode, .int .i64 now, .int .i64 (inoOf T p ino), .string s]) => (⟨h2, hx.cell 0, hx.cell 1, hx.cell 2, hx.cell 3, hx.cell 4, hx.cell 5, hx.cell 6⟩ : W.cell? ⟨F, 2, none⟩ = some vp ∧ W.cell? ⟨X, 0, none⟩ = some (.int .i64 0) ∧ W.cell? ⟨X, 1, none⟩ = some (.string ⟨#[]⟩) ∧ W.cell? ⟨X, 2, none⟩ = some (.string p) ∧ W.cell? ⟨X, 3, none⟩ = some (.int .i64 mode) ∧ W.cell? ⟨X, 4, none⟩ = some (.int .i64 now) ∧ W.cell? ⟨X, 5, none⟩ = some (.int .i64 (inoOf T p ino)) ∧ W.cell? ⟨X, 6, none⟩ = some (.string s))
  have z0 := ZZ.out w6.drew (F6.out.x.cell 2) HX6.out
  have z7 := ZZ.out (w6.drew.alloc (.cells #[.int .i64 0, .string ⟨#[]⟩, .string p, .int .i64 mode, .int .i64 now, .int .i64 (inoOf T p ino), .string s] 80)) (((show Blk w6.drew F 74 _ from F6.out.x).alloc (.cells #[.int .i64 0, .string ⟨#[]⟩, .string p, .int .i64 mode, .int .i64 now, .int .i64 (inoOf T p ino), .string s] 80)).cell 2) ((show Blk w6.drew X 80 _ from HX6.out).alloc (.cells #[.int .i64 0, .string ⟨#[]⟩, .string p, .int .i64 mode, .int .i64 now, .int .i64 (inoOf T p ino), .string s] 80))
  have KF7 := Lib.hid ((show Blk w6.drew F 74 _ from F6.out.x).alloc (.cells #[.int .i64 0, .string ⟨#[]⟩, .string p, .int .i64 mode, .int .i64 now, .int .i64 (inoOf T p ino), .string s] 80))
  have KX7 := Lib.hid ((show Blk w6.drew X 80 _ from HX6.out).alloc (.cells #[.int .i64 0, .string ⟨#[]⟩, .string p, .int .i64 mode, .int .i64 now, .int .i64 (inoOf T p ino), .string s] 80))
  have KF9 := Lib.hid (show Blk (w6.alloc (.cells #[.int .i64 0, .string ⟨#[]⟩, .string p, .int .i64 mode, .int .i64 now, .int .i64 (inoOf T p ino), .string s] 80)).drew F 74 _ from F6.out.x.alloc (.cells #[.int .i64 0, .string ⟨#[]⟩, .string p, .int .i64 mode, .int .i64 now, .int .i64 (inoOf T p ino), .string s] 80))
  have KX9 := Lib.hid (show Blk (w6.alloc (.cells #[.int .i64 0, .string ⟨#[]⟩, .string p, .int .i64 mode, .int .i64 now, .int .i64 (inoOf T p ino), .string s] 80)).drew X 80 _ from HX6.out.alloc (.cells #[.int .i64 0, .string ⟨#[]⟩, .string p, .int .i64 mode, .int .i64 now, .int .i64 (inoOf T p ino), .string s] 80))
  have hb6 : B ≤ w6.heap.size := Nat.le_trans HB.out.1 D6.out.size
  have hk6 : ps.length ≤ 100000 := HKK.out
  have O7 : (w6.drew.alloc (.cells #[.int .i64 0, .string ⟨#[]⟩, .string p, .int .i64 mode, .int .i64 now, .int .i64 (inoOf T p ino), .string s] 80)).ownsRow B 80 7 vp ps.length (ps.flatMap cO) := (show w6.drew.ownsRow B 80 7 vp ps.length (ps.flatMap cO) from O6.out).alloc _
  go_wp2
  have Fl : F < w6.drew.heap.size := F6.out.x.lt
  have Xl : X < w6.drew.heap.size := HX6.out.lt
  have g2 := z0.1
  have z9 := ZZ.out (w6.alloc (.cells #[.int .i64 0, .string ⟨#[]⟩, .string p, .int .i64 mode, .int .i64 now, .int .i64 (inoOf T p ino), .string s] 80)) ((F6.out.x.alloc (.cells #[.int .i64 0, .string ⟨#[]⟩, .string p, .int .i64 mode, .int .i64 now, .int .i64 (inoOf T p ino), .string s] 80)).cell 2) (HX6.out.alloc (.cells #[.int .i64 0, .string ⟨#[]⟩, .string p, .int .i64 mode, .int .i64 now, .int .i64 (inoOf T p ino), .string s] 80))
  have g9 := z9.1
  have v0 := z9.2.1
  have v1 := z9.2.2.1
  have v2 := z9.2.2.2.1
  have v3 := z9.2.2.2.2.1
  have v4 := z9.2.2.2.2.2.1
  have v5 := z9.2.2.2.2.2.2.1
  have v6 := z9.2.2.2.2.2.2.2
  have O9 : (w6.alloc (.cells #[.int .i64 0, .string ⟨#[]⟩, .string p, .int .i64 mode, .int .i64 now, .int .i64 (inoOf T p ino), .string s] 80)).drew.ownsRow B 80 7 vp ps.length (ps.flatMap cO) := (show w6.ownsRow B 80 7 vp ps.length (ps.flatMap cO) from O6.out).alloc _
  have x0 := z0.2.1
  have x1 := z0.2.2.1
  have x2 := z0.2.2.2.1
  have x3 := z0.2.2.2.2.1
  have x4 := z0.2.2.2.2.2.1
  have x5 := z0.2.2.2.2.2.2.1
  have x6 := z0.2.2.2.2.2.2.2
  go_region_law
    (first
    | (refine step_append_lies _ (by rfl) _ _ 72 (by rfl) B 80 i0 (.agg #[.int .i64 0, .string ⟨#[]⟩, .string ⟨#[]⟩, .int .i64 0, .int .i64 0, .int .i64 0, .string ⟨#[]⟩]) 7 80 Tryd.underlying72 hi hz0 hz1 hz2 rfl (by omega) _ ps.length _ (by rfl) O7
        ⟨w6.heap.size, 0, none⟩ 1 1 [.int .i64 0, .string ⟨#[]⟩, .string p, .int .i64 mode, .int .i64 now, .int .i64 (inoOf T p ino), .string s] (by rfl) (by rfl) (World.news_of_block (cs := #[.int .i64 0, .string ⟨#[]⟩, .string p, .int .i64 mode, .int .i64 now, .int .i64 (inoOf T p ino), .string s]) (t := 80) (fr := (0, 0)) (heap_alloc_new w6.drew _)) (by simp [Value.oneCell'])
        (by omega) (by unfold maxLen; omega) (by omega) (by simp; omega) (w6.heap.size + 1) (by simp) ?_; intro gg cap w8 own8 hg8 hat8 hlt8; have KF8 : Blk w8 F 74 _ := KF7.out.grown hg8 (fun e => own_blk_ne O7 KF7.out (by decide) e.symm); have f8 := KF8.frozen 2; have KX8 : Blk w8 X 80 _ := KX7.out.grown hg8 (fun e => ONX.out e.symm); have z8 := ZZ.out w8 (KF8.cell 2) KX8; have T8 := ((show TreeIs w6.drew bf (n + 1) (putT T p ⟨mode, now, inoOf T p ino, s⟩) from F6.out.f).alloc (.cells #[.int .i64 0, .string ⟨#[]⟩, .string p, .int .i64 mode, .int .i64 now, .int .i64 (inoOf T p ino), .string s] 80)).kept hg8 (fun e => own_tree_ne O7 ((show TreeIs w6.drew bf (n + 1) (putT T p ⟨mode, now, inoOf T p ino, s⟩) from F6.out.f).alloc (.cells #[.int .i64 0, .string ⟨#[]⟩, .string p, .int .i64 mode, .int .i64 now, .int .i64 (inoOf T p ino), .string s] 80)) e.symm); have S8 := ((show TreeIs w6.drew bs (n + 1) S from F6.out.s).alloc (.cells #[.int .i64 0, .string ⟨#[]⟩, .string p, .int .i64 mode, .int .i64 now, .int .i64 (inoOf T p ino), .string s] 80)).kept hg8 (fun e => own_tree_ne O7 ((show TreeIs w6.drew bs (n + 1) S from F6.out.s).alloc (.cells #[.int .i64 0, .string ⟨#[]⟩, .string p, .int .i64 mode, .int .i64 now, .int .i64 (inoOf T p ino), .string s] 80)) e.symm); have D8 := (D6.out.drew.alloc hb6 (.cells #[.int .i64 0, .string ⟨#[]⟩, .string p, .int .i64 mode, .int .i64 now, .int .i64 (inoOf T p ino), .string s] 80)).grown hg8 (by simp; omega) (fun z hz => (O7.lt z hz).1))
    | (refine step_append_lies _ (by rfl) _ _ 72 (by rfl) B 80 i0 (.agg #[.int .i64 0, .string ⟨#[]⟩, .string ⟨#[]⟩, .int .i64 0, .int .i64 0, .int .i64 0, .string ⟨#[]⟩]) 7 80 Tryd.underlying72 hi hz0 hz1 hz2 rfl (by omega) _ ps.length _ (by rfl) O9
        ⟨w6.heap.size, 0, none⟩ 1 1 [.int .i64 0, .string ⟨#[]⟩, .string p, .int .i64 mode, .int .i64 now, .int .i64 (inoOf T p ino), .string s] (by rfl) (by rfl) (World.news_of_block (cs := #[.int .i64 0, .string ⟨#[]⟩, .string p, .int .i64 mode, .int .i64 now, .int .i64 (inoOf T p ino), .string s]) (t := 80) (fr := (0, 0)) (show (w6.alloc _).drew.heap[w6.heap.size]? = _ from heap_alloc_new w6 _)) (by simp [Value.oneCell'])
        (by omega) (by unfold maxLen; omega) (by omega) (by simp; omega) (w6.heap.size + 1) (by simp) ?_; intro gg cap w8 own8 hg8 hat8 hlt8; have KF8 : Blk w8 F 74 _ := KF9.out.grown hg8 (fun e => own_blk_ne O9 KF9.out (by decide) e.symm); have f8 := KF8.frozen 2; have KX8 : Blk w8 X 80 _ := KX9.out.grown hg8 (fun e => ONX.out e.symm); have z8 := ZZ.out w8 (KF8.cell 2) KX8; have T8 := (show TreeIs (w6.alloc (.cells #[.int .i64 0, .string ⟨#[]⟩, .string p, .int .i64 mode, .int .i64 now, .int .i64 (inoOf T p ino), .string s] 80)).drew bf (n + 1) (putT T p ⟨mode, now, inoOf T p ino, s⟩) from F6.out.f.alloc (.cells #[.int .i64 0, .string ⟨#[]⟩, .string p, .int .i64 mode, .int .i64 now, .int .i64 (inoOf T p ino), .string s] 80)).kept hg8 (fun e => own_tree_ne O9 (show TreeIs (w6.alloc (.cells #[.int .i64 0, .string ⟨#[]⟩, .string p, .int .i64 mode, .int .i64 now, .int .i64 (inoOf T p ino), .string s] 80)).drew bf (n + 1) (putT T p ⟨mode, now, inoOf T p ino, s⟩) from F6.out.f.alloc (.cells #[.int .i64 0, .string ⟨#[]⟩, .string p, .int .i64 mode, .int .i64 now, .int .i64 (inoOf T p ino), .string s] 80)) e.symm); have S8 := (show TreeIs (w6.alloc (.cells #[.int .i64 0, .string ⟨#[]⟩, .string p, .int .i64 mode, .int .i64 now, .int .i64 (inoOf T p ino), .string s] 80)).drew bs (n + 1) S from F6.out.s.alloc (.cells #[.int .i64 0, .string ⟨#[]⟩, .string p, .int .i64 mode, .int .i64 now, .int .i64 (inoOf T p ino), .string s] 80)).kept hg8 (fun e => own_tree_ne O9 (show TreeIs (w6.alloc (.cells #[.int .i64 0, .string ⟨#[]⟩, .string p, .int .i64 mode, .int .i64 now, .int .i64 (inoOf T p ino), .string s] 80)).drew bs (n + 1) S from F6.out.s.alloc (.cells #[.int .i64 0, .string ⟨#[]⟩, .string p, .int .i64 mode, .int .i64 now, .int .i64 (inoOf T p ino), .string s] 80)) e.symm); have D8 := (D6.out.alloc hb6 (.cells #[.int .i64 0, .string ⟨#[]⟩, .string p, .int .i64 mode, .int .i64 now, .int .i64 (inoOf T p ino), .string s] 80)).drew.grown hg8 (by simp; omega) (fun z hz => (O9.lt z hz).1)))
  all_goals
    have F8 : FsIs w8 F bf bs (n + 1) (putT T p ⟨mode, now, inoOf T p ino, s⟩) S vp q now (inoNew T p ino) ops off 0 vk := ⟨KF8, T8, S8, F6.out.ne⟩
    have F9 := Lib.hid (F8.setPend (.slice (some ⟨gg, 0, none⟩) (ps.length + 1) cap))
    have P9 := Lib.hid (own8.kept (grown_cellF w8 F 2 (.slice (some ⟨gg, 0, none⟩) (ps.length + 1) cap)) (Or.inr (own_blk_ne own8 KF8 (by decide))))
    have D9 := Lib.hid (D8.setCell (p := ⟨F, 2, none⟩) HB.out.2.1 (.slice (some ⟨gg, 0, none⟩) (ps.length + 1) cap))
    have y6 := F9.out.x.cell 6
    have yf := F9.out.x.frozen 6
    have hops := HN.out.2.2
    clear z8 f8 T8 S8 D8 KX8 KF8 F8 own8 hg8 hat8 hlt8 z0 z7 z9 O7 O9 ZZ KF7 KX7 KF9 KX9 g2 g9 v0 v1 v2 v3 v4 v5 v6 x0 x1 x2 x3 x4 x5 x6 F6 HX6 D6 O6
    go_wp2
    go_ret
    refine ⟨_, rfl, F9.out.setOps (ops + 1), ?_, D9.out.setCell (p := ⟨F, 6, none⟩) HB.out.2.1 _⟩
    have hQ := P9.out.kept (grown_cellF _ F 6 (.int .i64 (ops + 1))) (Or.inr (own_blk_ne P9.out F9.out.x (by decide)))
    rw [List.length_append, List.flatMap_append]
    exact hQ
end Go.Proofs.YtcnmlgmlijgmhaaDoor
