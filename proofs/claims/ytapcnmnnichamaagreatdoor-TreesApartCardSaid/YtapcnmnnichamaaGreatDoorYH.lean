/-
  rectoref14.One: what three trees make at a path.
-/
import Derived.Test.YtapcnmnnichamaaGreatDoorYG

namespace Go.Proofs.YtapcnmnnichamaaGreatDoor
open Go Go.RowKit

/-- The blocks of One's own. -/
structure Sx (w : World) (gr g1 g2 g3 : Nat) (X Y Z : Option Fl) (W : World) : Prop where
  b : Below w.heap.size w W
  r : Blk W gr 52 #[.string ⟨#[]⟩, .int .i64 0, .string ⟨#[]⟩]
  x : Blk W g1 52 (fileA X)
  y : Blk W g2 52 (fileA Y)
  z : Blk W g3 52 (fileA Z)
theorem Sx.below {w : World} {gr g1 g2 g3 : Nat} {X Y Z : Option Fl} {W W' : World} (h : Sx w gr g1 g2 g3 X Y Z W) (hb : Below W.heap.size W W') : Sx w gr g1 g2 g3 X Y Z W' :=
  ⟨h.b.trans (hb.mono h.b.size), h.r.below hb h.r.lt, h.x.below hb h.x.lt, h.y.below hb h.y.lt, h.z.below hb h.z.lt⟩
def GetsX (p : ByteArray) (v : Value) (X : Option Fl) (w : World) : Prop := ∀ W, Below w.heap.size w W → Calls Tryz.prog 25 #[v, .string p] W fun e w' => e = .returned (.tuple #[.agg (fileA X), .bool X.isSome]) ∧ Below W.heap.size W w'
def LikeX (p : ByteArray) (v u : Value) (b : Bool) (w : World) : Prop := ∀ W, Below w.heap.size w W → Calls Tryz.prog 20 #[v, u, .string p] W (FlagTo b W)
set_option maxRecDepth 100000 in
set_option maxHeartbeats 4000000 in
theorem refOne_1 (w : World) (p : ByteArray) (vb vo vt : Value) (a n : ByteArray) (X Y Z : Option Fl) (GX : GetsX p vb X w) (GY : GetsX p vo Y w) (GZ : GetsX p vt Z w) (L1 : LikeX p vo vt true w) :
    Calls Tryz.prog 17 #[.string p, vb, vo, vt, .string a, .string n] w (OneTold (Y, false) w) := by
  have HX := Lib.hid GX
  unfold GetsX at HX
  have HY := Lib.hid GY
  unfold GetsX at HY
  have HZ := Lib.hid GZ
  unfold GetsX at HZ
  have H1 := Lib.hid L1
  unfold LikeX FlagTo at H1
  clear GX GY GZ L1
  unfold OneTold
  have B1 := Lib.hid ((Below.refl w.heap.size w).alloc (Nat.le_refl _) (.cells #[.string ⟨#[]⟩, .int .i64 0, .string ⟨#[]⟩] 52))
  have R1 := Lib.hid (Blk.new w 52 #[.string ⟨#[]⟩, .int .i64 0, .string ⟨#[]⟩])
  go_enter Tryz.func17, Tryz.ntmps17
  go_wp2_with fail
  refine (HX.out _ B1.out).mono ?_
  rintro e w2 ⟨rfl, b2⟩
  have B2 := Lib.hid ((B1.out.trans (b2.mono B1.out.size)).alloc (by have := B1.out.size; have := b2.size; omega) (.cells (fileA X) 52))
  have R2 := Lib.hid ((R1.out.below b2 R1.out.lt).alloc (.cells (fileA X) 52))
  have X2 := Lib.hid (Blk.new w2 52 (fileA X))
  have o2 := (R1.out.below b2 R1.out.lt).lt
  have O2 := Lib.hid o2
  clear b2 o2 B1 R1 HX
  go_wp2_with fail
  refine (HY.out _ B2.out).mono ?_
  rintro e w3 ⟨rfl, b3⟩
  have B3 := Lib.hid ((B2.out.trans (b3.mono B2.out.size)).alloc (by have := B2.out.size; have := b3.size; omega) (.cells (fileA Y) 52))
  have R3 := Lib.hid ((R2.out.below b3 R2.out.lt).alloc (.cells (fileA Y) 52))
  have X3 := Lib.hid ((X2.out.below b3 X2.out.lt).alloc (.cells (fileA Y) 52))
  have Y3 := Lib.hid (Blk.new w3 52 (fileA Y))
  have O3 := Lib.hid (X2.out.below b3 X2.out.lt).lt
  clear b3 B2 R2 X2 HY
  go_wp2_with fail
  refine (HZ.out _ B3.out).mono ?_
  rintro e w4 ⟨rfl, b4⟩
  have S0 : Hid (Sx w w.heap.size w2.heap.size w3.heap.size w4.heap.size X Y Z (w4.alloc (.cells (fileA Z) 52))) := Lib.hid ⟨(B3.out.trans (b4.mono B3.out.size)).alloc (by have := B3.out.size; have := b4.size; omega) (.cells (fileA Z) 52), (R3.out.below b4 R3.out.lt).alloc _, (X3.out.below b4 X3.out.lt).alloc _, (Y3.out.below b4 Y3.out.lt).alloc _, Blk.new w4 52 (fileA Z)⟩
  have O4 := Lib.hid (Y3.out.below b4 Y3.out.lt).lt
  clear b4 B3 R3 X3 Y3 HZ
  go_wp2_with fail
  obtain ⟨gr, hgr⟩ : ∃ g, g = w.heap.size := ⟨_, rfl⟩
  rw [← hgr] at O2 S0 ⊢
  have HG := Lib.hid (show w.heap.size ≤ gr by rw [hgr]; exact Nat.le_refl _)
  clear hgr
  generalize hW : w4.alloc (.cells (fileA Z) 52) = W at *
  clear hW
  generalize w2.heap.size = g1 at *
  generalize w3.heap.size = g2 at *
  generalize w4.heap.size = g3 at *
  refine (H1.out _ S0.out.b).mono ?_
  rintro e u1 ⟨rfl, c1⟩
  have S1 := Lib.hid (S0.out.below c1)
  clear c1 S0 H1
  have qr0 := S1.out.r.cell 0
  have qf0 := S1.out.r.frozen 0
  have qr1 := S1.out.r.cell 1
  have qf1 := S1.out.r.frozen 1
  have qr2 := S1.out.r.cell 2
  have qf2 := S1.out.r.frozen 2
  have qy0 := S1.out.y.cell 0
  have qy1 := S1.out.y.cell 1
  have qy2 := S1.out.y.cell 2
  go_wp2_with fail
  exact bodyPost_ret (results_row_tmp2 (fn := Tryz.f17) rfl _ _ gr 52 (fileA Y) (0, 0) _ rfl (row52 S1.out.r rfl _ _ _) Tryz.underlying52 rfl fSize52) rfl ⟨by first | rfl | simp_all, ((S1.out.b.setCell (p := ⟨gr, 0, none⟩) HG.out _).setCell (p := ⟨gr, 1, none⟩) HG.out _).setCell (p := ⟨gr, 2, none⟩) HG.out _⟩
set_option maxRecDepth 100000 in
set_option maxHeartbeats 4000000 in
theorem refOne_2 (w : World) (p : ByteArray) (vb vo vt : Value) (a n : ByteArray) (X Y Z : Option Fl) (GX : GetsX p vb X w) (GY : GetsX p vo Y w) (GZ : GetsX p vt Z w) (L1 : LikeX p vo vt false w) (L2 : LikeX p vb vt true w) :
    Calls Tryz.prog 17 #[.string p, vb, vo, vt, .string a, .string n] w (OneTold (Y, false) w) := by
  have HX := Lib.hid GX
  unfold GetsX at HX
  have HY := Lib.hid GY
  unfold GetsX at HY
  have HZ := Lib.hid GZ
  unfold GetsX at HZ
  have H1 := Lib.hid L1
  unfold LikeX FlagTo at H1
  have H2 := Lib.hid L2
  unfold LikeX FlagTo at H2
  clear GX GY GZ L1 L2
  unfold OneTold
  have B1 := Lib.hid ((Below.refl w.heap.size w).alloc (Nat.le_refl _) (.cells #[.string ⟨#[]⟩, .int .i64 0, .string ⟨#[]⟩] 52))
  have R1 := Lib.hid (Blk.new w 52 #[.string ⟨#[]⟩, .int .i64 0, .string ⟨#[]⟩])
  go_enter Tryz.func17, Tryz.ntmps17
  go_wp2_with fail
  refine (HX.out _ B1.out).mono ?_
  rintro e w2 ⟨rfl, b2⟩
  have B2 := Lib.hid ((B1.out.trans (b2.mono B1.out.size)).alloc (by have := B1.out.size; have := b2.size; omega) (.cells (fileA X) 52))
  have R2 := Lib.hid ((R1.out.below b2 R1.out.lt).alloc (.cells (fileA X) 52))
  have X2 := Lib.hid (Blk.new w2 52 (fileA X))
  have o2 := (R1.out.below b2 R1.out.lt).lt
  have O2 := Lib.hid o2
  clear b2 o2 B1 R1 HX
  go_wp2_with fail
  refine (HY.out _ B2.out).mono ?_
  rintro e w3 ⟨rfl, b3⟩
  have B3 := Lib.hid ((B2.out.trans (b3.mono B2.out.size)).alloc (by have := B2.out.size; have := b3.size; omega) (.cells (fileA Y) 52))
  have R3 := Lib.hid ((R2.out.below b3 R2.out.lt).alloc (.cells (fileA Y) 52))
  have X3 := Lib.hid ((X2.out.below b3 X2.out.lt).alloc (.cells (fileA Y) 52))
  have Y3 := Lib.hid (Blk.new w3 52 (fileA Y))
  have O3 := Lib.hid (X2.out.below b3 X2.out.lt).lt
  clear b3 B2 R2 X2 HY
  go_wp2_with fail
  refine (HZ.out _ B3.out).mono ?_
  rintro e w4 ⟨rfl, b4⟩
  have S0 : Hid (Sx w w.heap.size w2.heap.size w3.heap.size w4.heap.size X Y Z (w4.alloc (.cells (fileA Z) 52))) := Lib.hid ⟨(B3.out.trans (b4.mono B3.out.size)).alloc (by have := B3.out.size; have := b4.size; omega) (.cells (fileA Z) 52), (R3.out.below b4 R3.out.lt).alloc _, (X3.out.below b4 X3.out.lt).alloc _, (Y3.out.below b4 Y3.out.lt).alloc _, Blk.new w4 52 (fileA Z)⟩
  have O4 := Lib.hid (Y3.out.below b4 Y3.out.lt).lt
  clear b4 B3 R3 X3 Y3 HZ
  go_wp2_with fail
  obtain ⟨gr, hgr⟩ : ∃ g, g = w.heap.size := ⟨_, rfl⟩
  rw [← hgr] at O2 S0 ⊢
  have HG := Lib.hid (show w.heap.size ≤ gr by rw [hgr]; exact Nat.le_refl _)
  clear hgr
  generalize hW : w4.alloc (.cells (fileA Z) 52) = W at *
  clear hW
  generalize w2.heap.size = g1 at *
  generalize w3.heap.size = g2 at *
  generalize w4.heap.size = g3 at *
  refine (H1.out _ S0.out.b).mono ?_
  rintro e u1 ⟨rfl, c1⟩
  have S1 := Lib.hid (S0.out.below c1)
  clear c1 S0 H1
  go_wp2_with fail
  refine (H2.out _ S1.out.b).mono ?_
  rintro e u2 ⟨rfl, c2⟩
  have S2 := Lib.hid (S1.out.below c2)
  clear c2 S1 H2
  have qr0 := S2.out.r.cell 0
  have qf0 := S2.out.r.frozen 0
  have qr1 := S2.out.r.cell 1
  have qf1 := S2.out.r.frozen 1
  have qr2 := S2.out.r.cell 2
  have qf2 := S2.out.r.frozen 2
  have qy0 := S2.out.y.cell 0
  have qy1 := S2.out.y.cell 1
  have qy2 := S2.out.y.cell 2
  go_wp2_with fail
  exact bodyPost_ret (results_row_tmp2 (fn := Tryz.f17) rfl _ _ gr 52 (fileA Y) (0, 0) _ rfl (row52 S2.out.r rfl _ _ _) Tryz.underlying52 rfl fSize52) rfl ⟨by first | rfl | simp_all, ((S2.out.b.setCell (p := ⟨gr, 0, none⟩) HG.out _).setCell (p := ⟨gr, 1, none⟩) HG.out _).setCell (p := ⟨gr, 2, none⟩) HG.out _⟩
set_option maxRecDepth 100000 in
set_option maxHeartbeats 4000000 in
theorem refOne_3 (w : World) (p : ByteArray) (vb vo vt : Value) (a n : ByteArray) (X Y Z : Option Fl) (GX : GetsX p vb X w) (GY : GetsX p vo Y w) (GZ : GetsX p vt Z w) (L1 : LikeX p vo vt false w) (L2 : LikeX p vb vt false w) (L3 : LikeX p vb vo true w) :
    Calls Tryz.prog 17 #[.string p, vb, vo, vt, .string a, .string n] w (OneTold (Z, false) w) := by
  have HX := Lib.hid GX
  unfold GetsX at HX
  have HY := Lib.hid GY
  unfold GetsX at HY
  have HZ := Lib.hid GZ
  unfold GetsX at HZ
  have H1 := Lib.hid L1
  unfold LikeX FlagTo at H1
  have H2 := Lib.hid L2
  unfold LikeX FlagTo at H2
  have H3 := Lib.hid L3
  unfold LikeX FlagTo at H3
  clear GX GY GZ L1 L2 L3
  unfold OneTold
  have B1 := Lib.hid ((Below.refl w.heap.size w).alloc (Nat.le_refl _) (.cells #[.string ⟨#[]⟩, .int .i64 0, .string ⟨#[]⟩] 52))
  have R1 := Lib.hid (Blk.new w 52 #[.string ⟨#[]⟩, .int .i64 0, .string ⟨#[]⟩])
  go_enter Tryz.func17, Tryz.ntmps17
  go_wp2_with fail
  refine (HX.out _ B1.out).mono ?_
  rintro e w2 ⟨rfl, b2⟩
  have B2 := Lib.hid ((B1.out.trans (b2.mono B1.out.size)).alloc (by have := B1.out.size; have := b2.size; omega) (.cells (fileA X) 52))
  have R2 := Lib.hid ((R1.out.below b2 R1.out.lt).alloc (.cells (fileA X) 52))
  have X2 := Lib.hid (Blk.new w2 52 (fileA X))
  have o2 := (R1.out.below b2 R1.out.lt).lt
  have O2 := Lib.hid o2
  clear b2 o2 B1 R1 HX
  go_wp2_with fail
  refine (HY.out _ B2.out).mono ?_
  rintro e w3 ⟨rfl, b3⟩
  have B3 := Lib.hid ((B2.out.trans (b3.mono B2.out.size)).alloc (by have := B2.out.size; have := b3.size; omega) (.cells (fileA Y) 52))
  have R3 := Lib.hid ((R2.out.below b3 R2.out.lt).alloc (.cells (fileA Y) 52))
  have X3 := Lib.hid ((X2.out.below b3 X2.out.lt).alloc (.cells (fileA Y) 52))
  have Y3 := Lib.hid (Blk.new w3 52 (fileA Y))
  have O3 := Lib.hid (X2.out.below b3 X2.out.lt).lt
  clear b3 B2 R2 X2 HY
  go_wp2_with fail
  refine (HZ.out _ B3.out).mono ?_
  rintro e w4 ⟨rfl, b4⟩
  have S0 : Hid (Sx w w.heap.size w2.heap.size w3.heap.size w4.heap.size X Y Z (w4.alloc (.cells (fileA Z) 52))) := Lib.hid ⟨(B3.out.trans (b4.mono B3.out.size)).alloc (by have := B3.out.size; have := b4.size; omega) (.cells (fileA Z) 52), (R3.out.below b4 R3.out.lt).alloc _, (X3.out.below b4 X3.out.lt).alloc _, (Y3.out.below b4 Y3.out.lt).alloc _, Blk.new w4 52 (fileA Z)⟩
  have O4 := Lib.hid (Y3.out.below b4 Y3.out.lt).lt
  clear b4 B3 R3 X3 Y3 HZ
  go_wp2_with fail
  obtain ⟨gr, hgr⟩ : ∃ g, g = w.heap.size := ⟨_, rfl⟩
  rw [← hgr] at O2 S0 ⊢
  have HG := Lib.hid (show w.heap.size ≤ gr by rw [hgr]; exact Nat.le_refl _)
  clear hgr
  generalize hW : w4.alloc (.cells (fileA Z) 52) = W at *
  clear hW
  generalize w2.heap.size = g1 at *
  generalize w3.heap.size = g2 at *
  generalize w4.heap.size = g3 at *
  refine (H1.out _ S0.out.b).mono ?_
  rintro e u1 ⟨rfl, c1⟩
  have S1 := Lib.hid (S0.out.below c1)
  clear c1 S0 H1
  go_wp2_with fail
  refine (H2.out _ S1.out.b).mono ?_
  rintro e u2 ⟨rfl, c2⟩
  have S2 := Lib.hid (S1.out.below c2)
  clear c2 S1 H2
  go_wp2_with fail
  refine (H3.out _ S2.out.b).mono ?_
  rintro e u3 ⟨rfl, c3⟩
  have S3 := Lib.hid (S2.out.below c3)
  clear c3 S2 H3
  have qr0 := S3.out.r.cell 0
  have qf0 := S3.out.r.frozen 0
  have qr1 := S3.out.r.cell 1
  have qf1 := S3.out.r.frozen 1
  have qr2 := S3.out.r.cell 2
  have qf2 := S3.out.r.frozen 2
  have qz0 := S3.out.z.cell 0
  have qz1 := S3.out.z.cell 1
  have qz2 := S3.out.z.cell 2
  go_wp2_with fail
  exact bodyPost_ret (results_row_tmp2 (fn := Tryz.f17) rfl _ _ gr 52 (fileA Z) (0, 0) _ rfl (row52 S3.out.r rfl _ _ _) Tryz.underlying52 rfl fSize52) rfl ⟨by first | rfl | simp_all, ((S3.out.b.setCell (p := ⟨gr, 0, none⟩) HG.out _).setCell (p := ⟨gr, 1, none⟩) HG.out _).setCell (p := ⟨gr, 2, none⟩) HG.out _⟩
set_option maxRecDepth 100000 in
set_option maxHeartbeats 4000000 in
theorem refOne_4 (w : World) (p : ByteArray) (vb vo vt : Value) (a n : ByteArray) (X Y Z : Option Fl) (GX : GetsX p vb X w) (GY : GetsX p vo Y w) (GZ : GetsX p vt Z w) (L1 : LikeX p vo vt false w) (L2 : LikeX p vb vt false w) (L3 : LikeX p vb vo false w) (hy : Y.isSome = true) (hz : Z.isSome = true) (r : (ByteArray × Int × ByteArray) × Bool) (BT : ∀ W, Calls Tryz.prog 38 #[.agg (fileA X), .bool X.isSome, .agg (fileA Y), .agg (fileA Z), .string a, .string n] W (BothTold r W)) :
    Calls Tryz.prog 17 #[.string p, vb, vo, vt, .string a, .string n] w (OneTold (some r.1, r.2) w) := by
  have HX := Lib.hid GX
  unfold GetsX at HX
  have HY := Lib.hid GY
  unfold GetsX at HY
  have HZ := Lib.hid GZ
  unfold GetsX at HZ
  have H1 := Lib.hid L1
  unfold LikeX FlagTo at H1
  have H2 := Lib.hid L2
  unfold LikeX FlagTo at H2
  have H3 := Lib.hid L3
  unfold LikeX FlagTo at H3
  have HB := Lib.hid BT
  unfold BothTold at HB
  clear BT
  clear GX GY GZ L1 L2 L3
  unfold OneTold
  have B1 := Lib.hid ((Below.refl w.heap.size w).alloc (Nat.le_refl _) (.cells #[.string ⟨#[]⟩, .int .i64 0, .string ⟨#[]⟩] 52))
  have R1 := Lib.hid (Blk.new w 52 #[.string ⟨#[]⟩, .int .i64 0, .string ⟨#[]⟩])
  go_enter Tryz.func17, Tryz.ntmps17
  go_wp2_with fail
  refine (HX.out _ B1.out).mono ?_
  rintro e w2 ⟨rfl, b2⟩
  have B2 := Lib.hid ((B1.out.trans (b2.mono B1.out.size)).alloc (by have := B1.out.size; have := b2.size; omega) (.cells (fileA X) 52))
  have R2 := Lib.hid ((R1.out.below b2 R1.out.lt).alloc (.cells (fileA X) 52))
  have X2 := Lib.hid (Blk.new w2 52 (fileA X))
  have o2 := (R1.out.below b2 R1.out.lt).lt
  have O2 := Lib.hid o2
  clear b2 o2 B1 R1 HX
  go_wp2_with fail
  refine (HY.out _ B2.out).mono ?_
  rintro e w3 ⟨rfl, b3⟩
  have B3 := Lib.hid ((B2.out.trans (b3.mono B2.out.size)).alloc (by have := B2.out.size; have := b3.size; omega) (.cells (fileA Y) 52))
  have R3 := Lib.hid ((R2.out.below b3 R2.out.lt).alloc (.cells (fileA Y) 52))
  have X3 := Lib.hid ((X2.out.below b3 X2.out.lt).alloc (.cells (fileA Y) 52))
  have Y3 := Lib.hid (Blk.new w3 52 (fileA Y))
  have O3 := Lib.hid (X2.out.below b3 X2.out.lt).lt
  clear b3 B2 R2 X2 HY
  go_wp2_with fail
  refine (HZ.out _ B3.out).mono ?_
  rintro e w4 ⟨rfl, b4⟩
  have S0 : Hid (Sx w w.heap.size w2.heap.size w3.heap.size w4.heap.size X Y Z (w4.alloc (.cells (fileA Z) 52))) := Lib.hid ⟨(B3.out.trans (b4.mono B3.out.size)).alloc (by have := B3.out.size; have := b4.size; omega) (.cells (fileA Z) 52), (R3.out.below b4 R3.out.lt).alloc _, (X3.out.below b4 X3.out.lt).alloc _, (Y3.out.below b4 Y3.out.lt).alloc _, Blk.new w4 52 (fileA Z)⟩
  have O4 := Lib.hid (Y3.out.below b4 Y3.out.lt).lt
  clear b4 B3 R3 X3 Y3 HZ
  go_wp2_with fail
  obtain ⟨gr, hgr⟩ : ∃ g, g = w.heap.size := ⟨_, rfl⟩
  rw [← hgr] at O2 S0 ⊢
  have HG := Lib.hid (show w.heap.size ≤ gr by rw [hgr]; exact Nat.le_refl _)
  clear hgr
  generalize hW : w4.alloc (.cells (fileA Z) 52) = W at *
  clear hW
  generalize w2.heap.size = g1 at *
  generalize w3.heap.size = g2 at *
  generalize w4.heap.size = g3 at *
  refine (H1.out _ S0.out.b).mono ?_
  rintro e u1 ⟨rfl, c1⟩
  have S1 := Lib.hid (S0.out.below c1)
  clear c1 S0 H1
  go_wp2_with fail
  refine (H2.out _ S1.out.b).mono ?_
  rintro e u2 ⟨rfl, c2⟩
  have S2 := Lib.hid (S1.out.below c2)
  clear c2 S1 H2
  go_wp2_with fail
  refine (H3.out _ S2.out.b).mono ?_
  rintro e u3 ⟨rfl, c3⟩
  have S3 := Lib.hid (S2.out.below c3)
  clear c3 S2 H3
  have qx0 := S3.out.x.cell 0
  have qx1 := S3.out.x.cell 1
  have qx2 := S3.out.x.cell 2
  have qy0 := S3.out.y.cell 0
  have qy1 := S3.out.y.cell 1
  have qy2 := S3.out.y.cell 2
  have qz0 := S3.out.z.cell 0
  have qz1 := S3.out.z.cell 1
  have qz2 := S3.out.z.cell 2
  go_wp2_with fail
  refine (HB.out _).mono ?_
  rintro e u4 ⟨rfl, c4⟩
  have S4 := Lib.hid ((S3.out.below c4).below ((Below.refl _ _).alloc (Nat.le_refl _) (.cells #[.string r.1.1, .int .i64 r.1.2.1, .string r.1.2.2] 52)))
  have F5 := Lib.hid (Blk.new u4 52 #[.string r.1.1, .int .i64 r.1.2.1, .string r.1.2.2])
  have o5 := (S3.out.below c4).r.lt
  have NE := Lib.hid (show gr ≠ u4.heap.size by omega)
  clear o5 c4 S3 qx0 qx1 qx2 qy0 qy1 qy2 qz0 qz1 qz2 HB
  go_upto_region 10 with fail
  generalize hW5 : u4.alloc (.cells #[.string r.1.1, .int .i64 r.1.2.1, .string r.1.2.2] 52) = W5 at *
  clear hW5
  generalize u4.heap.size = g5 at *
  have ne5 := NE.out
  have y0 := F5.out.cell 0
  have y1 := F5.out.cell 1
  have y2 := F5.out.cell 2
  have sr0 := S4.out.r.cell 0
  have sf0 := S4.out.r.frozen 0
  have sr1 := S4.out.r.cell 1
  have sf1 := S4.out.r.frozen 1
  have sr2 := S4.out.r.cell 2
  have sf2 := S4.out.r.frozen 2
  go_wp2_with fail
  exact bodyPost_ret (results_row_tmp2 (fn := Tryz.f17) rfl _ _ gr 52 (#[.string r.1.1, .int .i64 r.1.2.1, .string r.1.2.2]) (0, 0) _ rfl (row52 S4.out.r rfl _ _ _) Tryz.underlying52 rfl fSize52) rfl ⟨by first | rfl | simp_all, ((S4.out.b.setCell (p := ⟨gr, 0, none⟩) HG.out _).setCell (p := ⟨gr, 1, none⟩) HG.out _).setCell (p := ⟨gr, 2, none⟩) HG.out _⟩
set_option maxRecDepth 100000 in
set_option maxHeartbeats 4000000 in
theorem refOne_5 (w : World) (p : ByteArray) (vb vo vt : Value) (a n : ByteArray) (X Y Z : Option Fl) (GX : GetsX p vb X w) (GY : GetsX p vo Y w) (GZ : GetsX p vt Z w) (L1 : LikeX p vo vt false w) (L2 : LikeX p vb vt false w) (L3 : LikeX p vb vo false w) (hy : Y.isSome = true) (hz : Z.isSome = false) :
    Calls Tryz.prog 17 #[.string p, vb, vo, vt, .string a, .string n] w (OneTold (Y, true) w) := by
  have HX := Lib.hid GX
  unfold GetsX at HX
  have HY := Lib.hid GY
  unfold GetsX at HY
  have HZ := Lib.hid GZ
  unfold GetsX at HZ
  have H1 := Lib.hid L1
  unfold LikeX FlagTo at H1
  have H2 := Lib.hid L2
  unfold LikeX FlagTo at H2
  have H3 := Lib.hid L3
  unfold LikeX FlagTo at H3
  clear GX GY GZ L1 L2 L3
  unfold OneTold
  have B1 := Lib.hid ((Below.refl w.heap.size w).alloc (Nat.le_refl _) (.cells #[.string ⟨#[]⟩, .int .i64 0, .string ⟨#[]⟩] 52))
  have R1 := Lib.hid (Blk.new w 52 #[.string ⟨#[]⟩, .int .i64 0, .string ⟨#[]⟩])
  go_enter Tryz.func17, Tryz.ntmps17
  go_wp2_with fail
  refine (HX.out _ B1.out).mono ?_
  rintro e w2 ⟨rfl, b2⟩
  have B2 := Lib.hid ((B1.out.trans (b2.mono B1.out.size)).alloc (by have := B1.out.size; have := b2.size; omega) (.cells (fileA X) 52))
  have R2 := Lib.hid ((R1.out.below b2 R1.out.lt).alloc (.cells (fileA X) 52))
  have X2 := Lib.hid (Blk.new w2 52 (fileA X))
  have o2 := (R1.out.below b2 R1.out.lt).lt
  have O2 := Lib.hid o2
  clear b2 o2 B1 R1 HX
  go_wp2_with fail
  refine (HY.out _ B2.out).mono ?_
  rintro e w3 ⟨rfl, b3⟩
  have B3 := Lib.hid ((B2.out.trans (b3.mono B2.out.size)).alloc (by have := B2.out.size; have := b3.size; omega) (.cells (fileA Y) 52))
  have R3 := Lib.hid ((R2.out.below b3 R2.out.lt).alloc (.cells (fileA Y) 52))
  have X3 := Lib.hid ((X2.out.below b3 X2.out.lt).alloc (.cells (fileA Y) 52))
  have Y3 := Lib.hid (Blk.new w3 52 (fileA Y))
  have O3 := Lib.hid (X2.out.below b3 X2.out.lt).lt
  clear b3 B2 R2 X2 HY
  go_wp2_with fail
  refine (HZ.out _ B3.out).mono ?_
  rintro e w4 ⟨rfl, b4⟩
  have S0 : Hid (Sx w w.heap.size w2.heap.size w3.heap.size w4.heap.size X Y Z (w4.alloc (.cells (fileA Z) 52))) := Lib.hid ⟨(B3.out.trans (b4.mono B3.out.size)).alloc (by have := B3.out.size; have := b4.size; omega) (.cells (fileA Z) 52), (R3.out.below b4 R3.out.lt).alloc _, (X3.out.below b4 X3.out.lt).alloc _, (Y3.out.below b4 Y3.out.lt).alloc _, Blk.new w4 52 (fileA Z)⟩
  have O4 := Lib.hid (Y3.out.below b4 Y3.out.lt).lt
  clear b4 B3 R3 X3 Y3 HZ
  go_wp2_with fail
  obtain ⟨gr, hgr⟩ : ∃ g, g = w.heap.size := ⟨_, rfl⟩
  rw [← hgr] at O2 S0 ⊢
  have HG := Lib.hid (show w.heap.size ≤ gr by rw [hgr]; exact Nat.le_refl _)
  clear hgr
  generalize hW : w4.alloc (.cells (fileA Z) 52) = W at *
  clear hW
  generalize w2.heap.size = g1 at *
  generalize w3.heap.size = g2 at *
  generalize w4.heap.size = g3 at *
  refine (H1.out _ S0.out.b).mono ?_
  rintro e u1 ⟨rfl, c1⟩
  have S1 := Lib.hid (S0.out.below c1)
  clear c1 S0 H1
  go_wp2_with fail
  refine (H2.out _ S1.out.b).mono ?_
  rintro e u2 ⟨rfl, c2⟩
  have S2 := Lib.hid (S1.out.below c2)
  clear c2 S1 H2
  go_wp2_with fail
  refine (H3.out _ S2.out.b).mono ?_
  rintro e u3 ⟨rfl, c3⟩
  have S3 := Lib.hid (S2.out.below c3)
  clear c3 S2 H3
  have qr0 := S3.out.r.cell 0
  have qf0 := S3.out.r.frozen 0
  have qr1 := S3.out.r.cell 1
  have qf1 := S3.out.r.frozen 1
  have qr2 := S3.out.r.cell 2
  have qf2 := S3.out.r.frozen 2
  have qy0 := S3.out.y.cell 0
  have qy1 := S3.out.y.cell 1
  have qy2 := S3.out.y.cell 2
  go_wp2_with fail
  exact bodyPost_ret (results_row_tmp2 (fn := Tryz.f17) rfl _ _ gr 52 (fileA Y) (0, 0) _ rfl (row52 S3.out.r rfl _ _ _) Tryz.underlying52 rfl fSize52) rfl ⟨by first | rfl | simp_all, ((S3.out.b.setCell (p := ⟨gr, 0, none⟩) HG.out _).setCell (p := ⟨gr, 1, none⟩) HG.out _).setCell (p := ⟨gr, 2, none⟩) HG.out _⟩
set_option maxRecDepth 100000 in
set_option maxHeartbeats 4000000 in
theorem refOne_6 (w : World) (p : ByteArray) (vb vo vt : Value) (a n : ByteArray) (X Y Z : Option Fl) (GX : GetsX p vb X w) (GY : GetsX p vo Y w) (GZ : GetsX p vt Z w) (L1 : LikeX p vo vt false w) (L2 : LikeX p vb vt false w) (L3 : LikeX p vb vo false w) (hy : Y.isSome = false) :
    Calls Tryz.prog 17 #[.string p, vb, vo, vt, .string a, .string n] w (OneTold (Z, true) w) := by
  have HX := Lib.hid GX
  unfold GetsX at HX
  have HY := Lib.hid GY
  unfold GetsX at HY
  have HZ := Lib.hid GZ
  unfold GetsX at HZ
  have H1 := Lib.hid L1
  unfold LikeX FlagTo at H1
  have H2 := Lib.hid L2
  unfold LikeX FlagTo at H2
  have H3 := Lib.hid L3
  unfold LikeX FlagTo at H3
  clear GX GY GZ L1 L2 L3
  unfold OneTold
  have B1 := Lib.hid ((Below.refl w.heap.size w).alloc (Nat.le_refl _) (.cells #[.string ⟨#[]⟩, .int .i64 0, .string ⟨#[]⟩] 52))
  have R1 := Lib.hid (Blk.new w 52 #[.string ⟨#[]⟩, .int .i64 0, .string ⟨#[]⟩])
  go_enter Tryz.func17, Tryz.ntmps17
  go_wp2_with fail
  refine (HX.out _ B1.out).mono ?_
  rintro e w2 ⟨rfl, b2⟩
  have B2 := Lib.hid ((B1.out.trans (b2.mono B1.out.size)).alloc (by have := B1.out.size; have := b2.size; omega) (.cells (fileA X) 52))
  have R2 := Lib.hid ((R1.out.below b2 R1.out.lt).alloc (.cells (fileA X) 52))
  have X2 := Lib.hid (Blk.new w2 52 (fileA X))
  have o2 := (R1.out.below b2 R1.out.lt).lt
  have O2 := Lib.hid o2
  clear b2 o2 B1 R1 HX
  go_wp2_with fail
  refine (HY.out _ B2.out).mono ?_
  rintro e w3 ⟨rfl, b3⟩
  have B3 := Lib.hid ((B2.out.trans (b3.mono B2.out.size)).alloc (by have := B2.out.size; have := b3.size; omega) (.cells (fileA Y) 52))
  have R3 := Lib.hid ((R2.out.below b3 R2.out.lt).alloc (.cells (fileA Y) 52))
  have X3 := Lib.hid ((X2.out.below b3 X2.out.lt).alloc (.cells (fileA Y) 52))
  have Y3 := Lib.hid (Blk.new w3 52 (fileA Y))
  have O3 := Lib.hid (X2.out.below b3 X2.out.lt).lt
  clear b3 B2 R2 X2 HY
  go_wp2_with fail
  refine (HZ.out _ B3.out).mono ?_
  rintro e w4 ⟨rfl, b4⟩
  have S0 : Hid (Sx w w.heap.size w2.heap.size w3.heap.size w4.heap.size X Y Z (w4.alloc (.cells (fileA Z) 52))) := Lib.hid ⟨(B3.out.trans (b4.mono B3.out.size)).alloc (by have := B3.out.size; have := b4.size; omega) (.cells (fileA Z) 52), (R3.out.below b4 R3.out.lt).alloc _, (X3.out.below b4 X3.out.lt).alloc _, (Y3.out.below b4 Y3.out.lt).alloc _, Blk.new w4 52 (fileA Z)⟩
  have O4 := Lib.hid (Y3.out.below b4 Y3.out.lt).lt
  clear b4 B3 R3 X3 Y3 HZ
  go_wp2_with fail
  obtain ⟨gr, hgr⟩ : ∃ g, g = w.heap.size := ⟨_, rfl⟩
  rw [← hgr] at O2 S0 ⊢
  have HG := Lib.hid (show w.heap.size ≤ gr by rw [hgr]; exact Nat.le_refl _)
  clear hgr
  generalize hW : w4.alloc (.cells (fileA Z) 52) = W at *
  clear hW
  generalize w2.heap.size = g1 at *
  generalize w3.heap.size = g2 at *
  generalize w4.heap.size = g3 at *
  refine (H1.out _ S0.out.b).mono ?_
  rintro e u1 ⟨rfl, c1⟩
  have S1 := Lib.hid (S0.out.below c1)
  clear c1 S0 H1
  go_wp2_with fail
  refine (H2.out _ S1.out.b).mono ?_
  rintro e u2 ⟨rfl, c2⟩
  have S2 := Lib.hid (S1.out.below c2)
  clear c2 S1 H2
  go_wp2_with fail
  refine (H3.out _ S2.out.b).mono ?_
  rintro e u3 ⟨rfl, c3⟩
  have S3 := Lib.hid (S2.out.below c3)
  clear c3 S2 H3
  have qr0 := S3.out.r.cell 0
  have qf0 := S3.out.r.frozen 0
  have qr1 := S3.out.r.cell 1
  have qf1 := S3.out.r.frozen 1
  have qr2 := S3.out.r.cell 2
  have qf2 := S3.out.r.frozen 2
  have qz0 := S3.out.z.cell 0
  have qz1 := S3.out.z.cell 1
  have qz2 := S3.out.z.cell 2
  go_wp2_with fail
  exact bodyPost_ret (results_row_tmp2 (fn := Tryz.f17) rfl _ _ gr 52 (fileA Z) (0, 0) _ rfl (row52 S3.out.r rfl _ _ _) Tryz.underlying52 rfl fSize52) rfl ⟨by first | rfl | simp_all, ((S3.out.b.setCell (p := ⟨gr, 0, none⟩) HG.out _).setCell (p := ⟨gr, 1, none⟩) HG.out _).setCell (p := ⟨gr, 2, none⟩) HG.out _⟩
theorem refOne_any (w : World) (p : ByteArray) (vb vo vt : Value) (b o t : List Fl) (a n : ByteArray) (hb : Reads 3 cF w vb b) (ho : Reads 3 cF w vo o) (ht : Reads 3 cF w vt t) (lb : b.length ≤ 100000) (lo : o.length ≤ 100000) (lt : t.length ≤ 100000)
    (x : TxO) (hT : getF o p ≠ getF t p → getF b p ≠ getF t p → getF b p ≠ getF o p → ¬ sD (getF o p) = sD (getF t p) → ∀ W, RefSays x (sD (getF b p)) (sD (getF o p)) (sD (getF t p)) a n W) (hx : ∀ s k, x = some (s, k) → k ≤ 1000000 ∧ s.size ≤ 1000000000) :
    Calls Tryz.prog 17 #[.string p, vb, vo, vt, .string a, .string n] w (OneTold (oneV x p (getF b p) (getF o p) (getF t p)) w) := by
  have gets : ∀ (v : Value) (l : List Fl), Reads 3 cF w v l → l.length ≤ 100000 → GetsX p v (getF l p) w := fun v l h hl W hW => by
    have := refGet_any W v l p (h.below hW) hl
    unfold Got at this
    rw [gotV_eq] at this
    exact this
  have likes : ∀ (v u : Value) (l m : List Fl) (q : Bool), Reads 3 cF w v l → Reads 3 cF w u m → l.length ≤ 100000 → m.length ≤ 100000 → decide (getF l p = getF m p) = q → LikeX p v u q w := fun v u l m q h g hl hm hq W hW => by
    rw [← hq]
    exact like_any W v u l m p (h.below hW) (g.below hW) hl hm
  have GX := gets vb b hb lb
  have GY := gets vo o ho lo
  have GZ := gets vt t ht lt
  by_cases h1 : getF o p = getF t p
  · rw [show oneV x p (getF b p) (getF o p) (getF t p) = (getF o p, false) by unfold oneV; rw [if_pos (.inl h1)]]
    exact refOne_1 w p vb vo vt a n _ _ _ GX GY GZ (likes vo vt o t true ho ht lo lt (decide_eq_true h1))
  have L1 := likes vo vt o t false ho ht lo lt (decide_eq_false h1)
  by_cases h2 : getF b p = getF t p
  · rw [show oneV x p (getF b p) (getF o p) (getF t p) = (getF o p, false) by unfold oneV; rw [if_pos (.inr h2)]]
    exact refOne_2 w p vb vo vt a n _ _ _ GX GY GZ L1 (likes vb vt b t true hb ht lb lt (decide_eq_true h2))
  have L2 := likes vb vt b t false hb ht lb lt (decide_eq_false h2)
  have n1 : ¬ (getF o p = getF t p ∨ getF b p = getF t p) := fun h => h.elim h1 h2
  by_cases h3 : getF b p = getF o p
  · rw [show oneV x p (getF b p) (getF o p) (getF t p) = (getF t p, false) by unfold oneV; rw [if_neg n1, if_pos h3]]
    exact refOne_3 w p vb vo vt a n _ _ _ GX GY GZ L1 L2 (likes vb vo b o true hb ho lb lo (decide_eq_true h3))
  have L3 := likes vb vo b o false hb ho lb lo (decide_eq_false h3)
  cases hy : (getF o p).isSome with
  | false =>
    rw [show oneV x p (getF b p) (getF o p) (getF t p) = (getF t p, true) by unfold oneV; rw [if_neg n1, if_neg h3, if_neg (fun h => by rw [hy] at h; cases h.1), if_neg (fun h => by rw [hy] at h; cases h)]]
    exact refOne_6 w p vb vo vt a n _ _ _ GX GY GZ L1 L2 L3 hy
  | true =>
    cases hz : (getF t p).isSome with
    | false =>
      rw [show oneV x p (getF b p) (getF o p) (getF t p) = (getF o p, true) by unfold oneV; rw [if_neg n1, if_neg h3, if_neg (fun h => by rw [hz] at h; cases h.2), if_pos hy]]
      exact refOne_5 w p vb vo vt a n _ _ _ GX GY GZ L1 L2 L3 hy hz
    | true =>
      have hp : sP (getF o p) = p := by
        cases h : getF o p with
        | none => rw [h] at hy; cases hy
        | some f => exact getF_path h
      have e : oneV x p (getF b p) (getF o p) (getF t p) = (some (bothV x (getF b p) (getF o p) (getF t p)).1, (bothV x (getF b p) (getF o p) (getF t p)).2) := by
        unfold oneV bothV
        rw [if_neg n1, if_neg h3, if_pos ⟨hy, hz⟩, hp]
      rw [e]
      exact refOne_4 w p vb vo vt a n _ _ _ GX GY GZ L1 L2 L3 hy hz _ fun W => both_any W _ _ _ a n x (hT h1 h2 h3) hx
end Go.Proofs.YtapcnmnnichamaaGreatDoor
