/-
  rectoref14.One: what three trees make at a path.
  rectoref11.Text as rectoref14 wants it.
  rectolaw16.short: a yes or a no.
  TreesOne: one path of any three trees.
-/
import Derived.Test.YtapcnmnnichamaaGreatDoorWG
import Derived.Test.YtapcnmnnichamaaGreatDoorWF
import Derived.Test.YtapcnmnnichamaaGreatDoorTE

namespace Go.Proofs.YtapcnmnnichamaaGreatDoor
open Go Go.RowKit

/-- The blocks of One's own. -/
structure Sx (w : World) (gr g1 g2 g3 : Nat) (X Y Z : Option Fl) (W : World) : Prop where
  b : Below w.heap.size w W
  r : Blk W gr 52 #[.string ⟨#[]⟩, .int .i64 0, .string ⟨#[]⟩]
  x : Blk W g1 52 (fileA X)
  y : Blk W g2 52 (fileA Y)
  z : Blk W g3 52 (fileA Z)
theorem Sx.below {w : World} {gr g1 g2 g3 : Nat} {X Y Z : Option Fl} {W W' : World} (h : Sx w gr g1 g2 g3 X Y Z W) (hb : Below W.heap.size W W') : Sx w gr g1 g2 g3 X Y Z W' :=
  ⟨h.b.trans (hb.mono h.b.size), h.r.below hb h.r.lt, h.x.below hb h.x.lt, h.y.below hb h.y.lt, h.z.below hb h.z.lt⟩
def GetsX (p : ByteArray) (v : Value) (X : Option Fl) (w : World) : Prop := ∀ W, Below w.heap.size w W → Calls Tryz.prog 25 #[v, .string p] W fun e w' => e = .returned (.tuple #[.agg (fileA X), .bool X.isSome]) ∧ Below W.heap.size W w'
def LikeX (p : ByteArray) (v u : Value) (b : Bool) (w : World) : Prop := ∀ W, Below w.heap.size w W → Calls Tryz.prog 20 #[v, u, .string p] W (FlagTo b W)
set_option maxRecDepth 100000 in
set_option maxHeartbeats 4000000 in
theorem refOne_1 (w : World) (p : ByteArray) (vb vo vt : Value) (a n : ByteArray) (X Y Z : Option Fl) (GX : GetsX p vb X w) (GY : GetsX p vo Y w) (GZ : GetsX p vt Z w) (L1 : LikeX p vo vt true w) :
    Calls Tryz.prog 17 #[.string p, vb, vo, vt, .string a, .string n] w (OneTold (Y, false) w) := by
  have HX := Lib.hid GX
  unfold GetsX at HX
  have HY := Lib.hid GY
  unfold GetsX at HY
  have HZ := Lib.hid GZ
  unfold GetsX at HZ
  have H1 := Lib.hid L1
  unfold LikeX FlagTo at H1
  clear GX GY GZ L1
  unfold OneTold
  have B1 := Lib.hid ((Below.refl w.heap.size w).alloc (Nat.le_refl _) (.cells #[.string ⟨#[]⟩, .int .i64 0, .string ⟨#[]⟩] 52))
  have R1 := Lib.hid (Blk.new w 52 #[.string ⟨#[]⟩, .int .i64 0, .string ⟨#[]⟩])
  go_enter Tryz.func17, Tryz.ntmps17
  go_wp2_with fail
  refine (HX.out _ B1.out).mono ?_
  rintro e w2 ⟨rfl, b2⟩
  have B2 := Lib.hid ((B1.out.trans (b2.mono B1.out.size)).alloc (by have := B1.out.size; have := b2.size; omega) (.cells (fileA X) 52))
  have R2 := Lib.hid ((R1.out.below b2 R1.out.lt).alloc (.cells (fileA X) 52))
  have X2 := Lib.hid (Blk.new w2 52 (fileA X))
  have o2 := (R1.out.below b2 R1.out.lt).lt
  have O2 := Lib.hid o2
  clear b2 o2 B1 R1 HX
  go_wp2_with fail
  refine (HY.out _ B2.out).mono ?_
  rintro e w3 ⟨rfl, b3⟩
  have B3 := Lib.hid ((B2.out.trans (b3.mono B2.out.size)).alloc (by have := B2.out.size; have := b3.size; omega) (.cells (fileA Y) 52))
  have R3 := Lib.hid ((R2.out.below b3 R2.out.lt).alloc (.cells (fileA Y) 52))
  have X3 := Lib.hid ((X2.out.below b3 X2.out.lt).alloc (.cells (fileA Y) 52))
  have Y3 := Lib.hid (Blk.new w3 52 (fileA Y))
  have O3 := Lib.hid (X2.out.below b3 X2.out.lt).lt
  clear b3 B2 R2 X2 HY
  go_wp2_with fail
  refine (HZ.out _ B3.out).mono ?_
  rintro e w4 ⟨rfl, b4⟩
  have S0 : Hid (Sx w w.heap.size w2.heap.size w3.heap.size w4.heap.size X Y Z (w4.alloc (.cells (fileA Z) 52))) := Lib.hid ⟨(B3.out.trans (b4.mono B3.out.size)).alloc (by have := B3.out.size; have := b4.size; omega) (.cells (fileA Z) 52), (R3.out.below b4 R3.out.lt).alloc _, (X3.out.below b4 X3.out.lt).alloc _, (Y3.out.below b4 Y3.out.lt).alloc _, Blk.new w4 52 (fileA Z)⟩
  have O4 := Lib.hid (Y3.out.below b4 Y3.out.lt).lt
  clear b4 B3 R3 X3 Y3 HZ
  go_wp2_with fail
  obtain ⟨gr, hgr⟩ : ∃ g, g = w.heap.size := ⟨_, rfl⟩
  rw [← hgr] at O2 S0 ⊢
  have HG := Lib.hid (show w.heap.size ≤ gr by rw [hgr]; exact Nat.le_refl _)
  clear hgr
  generalize hW : w4.alloc (.cells (fileA Z) 52) = W at *
  clear hW
  generalize w2.heap.size = g1 at *
  generalize w3.heap.size = g2 at *
  generalize w4.heap.size = g3 at *
  refine (H1.out _ S0.out.b).mono ?_
  rintro e u1 ⟨rfl, c1⟩
  have S1 := Lib.hid (S0.out.below c1)
  clear c1 S0 H1
  have qr0 := S1.out.r.cell 0
  have qf0 := S1.out.r.frozen 0
  have qr1 := S1.out.r.cell 1
  have qf1 := S1.out.r.frozen 1
  have qr2 := S1.out.r.cell 2
  have qf2 := S1.out.r.frozen 2
  have qy0 := S1.out.y.cell 0
  have qy1 := S1.out.y.cell 1
  have qy2 := S1.out.y.cell 2
  go_wp2_with fail
  exact bodyPost_ret (results_row_tmp2 (fn := Tryz.f17) rfl _ _ gr 52 (fileA Y) (0, 0) _ rfl (row52 S1.out.r rfl _ _ _) Tryz.underlying52 rfl fSize52) rfl ⟨by first | rfl | simp_all, ((S1.out.b.setCell (p := ⟨gr, 0, none⟩) HG.out _).setCell (p := ⟨gr, 1, none⟩) HG.out _).setCell (p := ⟨gr, 2, none⟩) HG.out _⟩
set_option maxRecDepth 100000 in
set_option maxHeartbeats 4000000 in
theorem refOne_2 (w : World) (p : ByteArray) (vb vo vt : Value) (a n : ByteArray) (X Y Z : Option Fl) (GX : GetsX p vb X w) (GY : GetsX p vo Y w) (GZ : GetsX p vt Z w) (L1 : LikeX p vo vt false w) (L2 : LikeX p vb vt true w) :
    Calls Tryz.prog 17 #[.string p, vb, vo, vt, .string a, .string n] w (OneTold (Y, false) w) := by
  have HX := Lib.hid GX
  unfold GetsX at HX
  have HY := Lib.hid GY
  unfold GetsX at HY
  have HZ := Lib.hid GZ
  unfold GetsX at HZ
  have H1 := Lib.hid L1
  unfold LikeX FlagTo at H1
  have H2 := Lib.hid L2
  unfold LikeX FlagTo at H2
  clear GX GY GZ L1 L2
  unfold OneTold
  have B1 := Lib.hid ((Below.refl w.heap.size w).alloc (Nat.le_refl _) (.cells #[.string ⟨#[]⟩, .int .i64 0, .string ⟨#[]⟩] 52))
  have R1 := Lib.hid (Blk.new w 52 #[.string ⟨#[]⟩, .int .i64 0, .string ⟨#[]⟩])
  go_enter Tryz.func17, Tryz.ntmps17
  go_wp2_with fail
  refine (HX.out _ B1.out).mono ?_
  rintro e w2 ⟨rfl, b2⟩
  have B2 := Lib.hid ((B1.out.trans (b2.mono B1.out.size)).alloc (by have := B1.out.size; have := b2.size; omega) (.cells (fileA X) 52))
  have R2 := Lib.hid ((R1.out.below b2 R1.out.lt).alloc (.cells (fileA X) 52))
  have X2 := Lib.hid (Blk.new w2 52 (fileA X))
  have o2 := (R1.out.below b2 R1.out.lt).lt
  have O2 := Lib.hid o2
  clear b2 o2 B1 R1 HX
  go_wp2_with fail
  refine (HY.out _ B2.out).mono ?_
  rintro e w3 ⟨rfl, b3⟩
  have B3 := Lib.hid ((B2.out.trans (b3.mono B2.out.size)).alloc (by have := B2.out.size; have := b3.size; omega) (.cells (fileA Y) 52))
  have R3 := Lib.hid ((R2.out.below b3 R2.out.lt).alloc (.cells (fileA Y) 52))
  have X3 := Lib.hid ((X2.out.below b3 X2.out.lt).alloc (.cells (fileA Y) 52))
  have Y3 := Lib.hid (Blk.new w3 52 (fileA Y))
  have O3 := Lib.hid (X2.out.below b3 X2.out.lt).lt
  clear b3 B2 R2 X2 HY
  go_wp2_with fail
  refine (HZ.out _ B3.out).mono ?_
  rintro e w4 ⟨rfl, b4⟩
  have S0 : Hid (Sx w w.heap.size w2.heap.size w3.heap.size w4.heap.size X Y Z (w4.alloc (.cells (fileA Z) 52))) := Lib.hid ⟨(B3.out.trans (b4.mono B3.out.size)).alloc (by have := B3.out.size; have := b4.size; omega) (.cells (fileA Z) 52), (R3.out.below b4 R3.out.lt).alloc _, (X3.out.below b4 X3.out.lt).alloc _, (Y3.out.below b4 Y3.out.lt).alloc _, Blk.new w4 52 (fileA Z)⟩
  have O4 := Lib.hid (Y3.out.below b4 Y3.out.lt).lt
  clear b4 B3 R3 X3 Y3 HZ
  go_wp2_with fail
  obtain ⟨gr, hgr⟩ : ∃ g, g = w.heap.size := ⟨_, rfl⟩
  rw [← hgr] at O2 S0 ⊢
  have HG := Lib.hid (show w.heap.size ≤ gr by rw [hgr]; exact Nat.le_refl _)
  clear hgr
  generalize hW : w4.alloc (.cells (fileA Z) 52) = W at *
  clear hW
  generalize w2.heap.size = g1 at *
  generalize w3.heap.size = g2 at *
  generalize w4.heap.size = g3 at *
  refine (H1.out _ S0.out.b).mono ?_
  rintro e u1 ⟨rfl, c1⟩
  have S1 := Lib.hid (S0.out.below c1)
  clear c1 S0 H1
  go_wp2_with fail
  refine (H2.out _ S1.out.b).mono ?_
  rintro e u2 ⟨rfl, c2⟩
  have S2 := Lib.hid (S1.out.below c2)
  clear c2 S1 H2
  have qr0 := S2.out.r.cell 0
  have qf0 := S2.out.r.frozen 0
  have qr1 := S2.out.r.cell 1
  have qf1 := S2.out.r.frozen 1
  have qr2 := S2.out.r.cell 2
  have qf2 := S2.out.r.frozen 2
  have qy0 := S2.out.y.cell 0
  have qy1 := S2.out.y.cell 1
  have qy2 := S2.out.y.cell 2
  go_wp2_with fail
  exact bodyPost_ret (results_row_tmp2 (fn := Tryz.f17) rfl _ _ gr 52 (fileA Y) (0, 0) _ rfl (row52 S2.out.r rfl _ _ _) Tryz.underlying52 rfl fSize52) rfl ⟨by first | rfl | simp_all, ((S2.out.b.setCell (p := ⟨gr, 0, none⟩) HG.out _).setCell (p := ⟨gr, 1, none⟩) HG.out _).setCell (p := ⟨gr, 2, none⟩) HG.out _⟩
set_option maxRecDepth 100000 in
set_option maxHeartbeats 4000000 in
theorem refOne_3 (w : World) (p : ByteArray) (vb vo vt : Value) (a n : ByteArray) (X Y Z : Option Fl) (GX : GetsX p vb X w) (GY : GetsX p vo Y w) (GZ : GetsX p vt Z w) (L1 : LikeX p vo vt false w) (L2 : LikeX p vb vt false w) (L3 : LikeX p vb vo true w) :
    Calls Tryz.prog 17 #[.string p, vb, vo, vt, .string a, .string n] w (OneTold (Z, false) w) := by
  have HX := Lib.hid GX
  unfold GetsX at HX
  have HY := Lib.hid GY
  unfold GetsX at HY
  have HZ := Lib.hid GZ
  unfold GetsX at HZ
  have H1 := Lib.hid L1
  unfold LikeX FlagTo at H1
  have H2 := Lib.hid L2
  unfold LikeX FlagTo at H2
  have H3 := Lib.hid L3
  unfold LikeX FlagTo at H3
  clear GX GY GZ L1 L2 L3
  unfold OneTold
  have B1 := Lib.hid ((Below.refl w.heap.size w).alloc (Nat.le_refl _) (.cells #[.string ⟨#[]⟩, .int .i64 0, .string ⟨#[]⟩] 52))
  have R1 := Lib.hid (Blk.new w 52 #[.string ⟨#[]⟩, .int .i64 0, .string ⟨#[]⟩])
  go_enter Tryz.func17, Tryz.ntmps17
  go_wp2_with fail
  refine (HX.out _ B1.out).mono ?_
  rintro e w2 ⟨rfl, b2⟩
  have B2 := Lib.hid ((B1.out.trans (b2.mono B1.out.size)).alloc (by have := B1.out.size; have := b2.size; omega) (.cells (fileA X) 52))
  have R2 := Lib.hid ((R1.out.below b2 R1.out.lt).alloc (.cells (fileA X) 52))
  have X2 := Lib.hid (Blk.new w2 52 (fileA X))
  have o2 := (R1.out.below b2 R1.out.lt).lt
  have O2 := Lib.hid o2
  clear b2 o2 B1 R1 HX
  go_wp2_with fail
  refine (HY.out _ B2.out).mono ?_
  rintro e w3 ⟨rfl, b3⟩
  have B3 := Lib.hid ((B2.out.trans (b3.mono B2.out.size)).alloc (by have := B2.out.size; have := b3.size; omega) (.cells (fileA Y) 52))
  have R3 := Lib.hid ((R2.out.below b3 R2.out.lt).alloc (.cells (fileA Y) 52))
  have X3 := Lib.hid ((X2.out.below b3 X2.out.lt).alloc (.cells (fileA Y) 52))
  have Y3 := Lib.hid (Blk.new w3 52 (fileA Y))
  have O3 := Lib.hid (X2.out.below b3 X2.out.lt).lt
  clear b3 B2 R2 X2 HY
  go_wp2_with fail
  refine (HZ.out _ B3.out).mono ?_
  rintro e w4 ⟨rfl, b4⟩
  have S0 : Hid (Sx w w.heap.size w2.heap.size w3.heap.size w4.heap.size X Y Z (w4.alloc (.cells (fileA Z) 52))) := Lib.hid ⟨(B3.out.trans (b4.mono B3.out.size)).alloc (by have := B3.out.size; have := b4.size; omega) (.cells (fileA Z) 52), (R3.out.below b4 R3.out.lt).alloc _, (X3.out.below b4 X3.out.lt).alloc _, (Y3.out.below b4 Y3.out.lt).alloc _, Blk.new w4 52 (fileA Z)⟩
  have O4 := Lib.hid (Y3.out.below b4 Y3.out.lt).lt
  clear b4 B3 R3 X3 Y3 HZ
  go_wp2_with fail
  obtain ⟨gr, hgr⟩ : ∃ g, g = w.heap.size := ⟨_, rfl⟩
  rw [← hgr] at O2 S0 ⊢
  have HG := Lib.hid (show w.heap.size ≤ gr by rw [hgr]; exact Nat.le_refl _)
  clear hgr
  generalize hW : w4.alloc (.cells (fileA Z) 52) = W at *
  clear hW
  generalize w2.heap.size = g1 at *
  generalize w3.heap.size = g2 at *
  generalize w4.heap.size = g3 at *
  refine (H1.out _ S0.out.b).mono ?_
  rintro e u1 ⟨rfl, c1⟩
  have S1 := Lib.hid (S0.out.below c1)
  clear c1 S0 H1
  go_wp2_with fail
  refine (H2.out _ S1.out.b).mono ?_
  rintro e u2 ⟨rfl, c2⟩
  have S2 := Lib.hid (S1.out.below c2)
  clear c2 S1 H2
  go_wp2_with fail
  refine (H3.out _ S2.out.b).mono ?_
  rintro e u3 ⟨rfl, c3⟩
  have S3 := Lib.hid (S2.out.below c3)
  clear c3 S2 H3
  have qr0 := S3.out.r.cell 0
  have qf0 := S3.out.r.frozen 0
  have qr1 := S3.out.r.cell 1
  have qf1 := S3.out.r.frozen 1
  have qr2 := S3.out.r.cell 2
  have qf2 := S3.out.r.frozen 2
  have qz0 := S3.out.z.cell 0
  have qz1 := S3.out.z.cell 1
  have qz2 := S3.out.z.cell 2
  go_wp2_with fail
  exact bodyPost_ret (results_row_tmp2 (fn := Tryz.f17) rfl _ _ gr 52 (fileA Z) (0, 0) _ rfl (row52 S3.out.r rfl _ _ _) Tryz.underlying52 rfl fSize52) rfl ⟨by first | rfl | simp_all, ((S3.out.b.setCell (p := ⟨gr, 0, none⟩) HG.out _).setCell (p := ⟨gr, 1, none⟩) HG.out _).setCell (p := ⟨gr, 2, none⟩) HG.out _⟩
set_option maxRecDepth 100000 in
set_option maxHeartbeats 4000000 in
theorem refOne_4 (w : World) (p : ByteArray) (vb vo vt : Value) (a n : ByteArray) (X Y Z : Option Fl) (GX : GetsX p vb X w) (GY : GetsX p vo Y w) (GZ : GetsX p vt Z w) (L1 : LikeX p vo vt false w) (L2 : LikeX p vb vt false w) (L3 : LikeX p vb vo false w) (hy : Y.isSome = true) (hz : Z.isSome = true) (r : (ByteArray × Int × ByteArray) × Bool) (BT : ∀ W, Calls Tryz.prog 38 #[.agg (fileA X), .bool X.isSome, .agg (fileA Y), .agg (fileA Z), .string a, .string n] W (BothTold r W)) :
    Calls Tryz.prog 17 #[.string p, vb, vo, vt, .string a, .string n] w (OneTold (some r.1, r.2) w) := by
  have HX := Lib.hid GX
  unfold GetsX at HX
  have HY := Lib.hid GY
  unfold GetsX at HY
  have HZ := Lib.hid GZ
  unfold GetsX at HZ
  have H1 := Lib.hid L1
  unfold LikeX FlagTo at H1
  have H2 := Lib.hid L2
  unfold LikeX FlagTo at H2
  have H3 := Lib.hid L3
  unfold LikeX FlagTo at H3
  have HB := Lib.hid BT
  unfold BothTold at HB
  clear BT
  clear GX GY GZ L1 L2 L3
  unfold OneTold
  have B1 := Lib.hid ((Below.refl w.heap.size w).alloc (Nat.le_refl _) (.cells #[.string ⟨#[]⟩, .int .i64 0, .string ⟨#[]⟩] 52))
  have R1 := Lib.hid (Blk.new w 52 #[.string ⟨#[]⟩, .int .i64 0, .string ⟨#[]⟩])
  go_enter Tryz.func17, Tryz.ntmps17
  go_wp2_with fail
  refine (HX.out _ B1.out).mono ?_
  rintro e w2 ⟨rfl, b2⟩
  have B2 := Lib.hid ((B1.out.trans (b2.mono B1.out.size)).alloc (by have := B1.out.size; have := b2.size; omega) (.cells (fileA X) 52))
  have R2 := Lib.hid ((R1.out.below b2 R1.out.lt).alloc (.cells (fileA X) 52))
  have X2 := Lib.hid (Blk.new w2 52 (fileA X))
  have o2 := (R1.out.below b2 R1.out.lt).lt
  have O2 := Lib.hid o2
  clear b2 o2 B1 R1 HX
  go_wp2_with fail
  refine (HY.out _ B2.out).mono ?_
  rintro e w3 ⟨rfl, b3⟩
  have B3 := Lib.hid ((B2.out.trans (b3.mono B2.out.size)).alloc (by have := B2.out.size; have := b3.size; omega) (.cells (fileA Y) 52))
  have R3 := Lib.hid ((R2.out.below b3 R2.out.lt).alloc (.cells (fileA Y) 52))
  have X3 := Lib.hid ((X2.out.below b3 X2.out.lt).alloc (.cells (fileA Y) 52))
  have Y3 := Lib.hid (Blk.new w3 52 (fileA Y))
  have O3 := Lib.hid (X2.out.below b3 X2.out.lt).lt
  clear b3 B2 R2 X2 HY
  go_wp2_with fail
  refine (HZ.out _ B3.out).mono ?_
  rintro e w4 ⟨rfl, b4⟩
  have S0 : Hid (Sx w w.heap.size w2.heap.size w3.heap.size w4.heap.size X Y Z (w4.alloc (.cells (fileA Z) 52))) := Lib.hid ⟨(B3.out.trans (b4.mono B3.out.size)).alloc (by have := B3.out.size; have := b4.size; omega) (.cells (fileA Z) 52), (R3.out.below b4 R3.out.lt).alloc _, (X3.out.below b4 X3.out.lt).alloc _, (Y3.out.below b4 Y3.out.lt).alloc _, Blk.new w4 52 (fileA Z)⟩
  have O4 := Lib.hid (Y3.out.below b4 Y3.out.lt).lt
  clear b4 B3 R3 X3 Y3 HZ
  go_wp2_with fail
  obtain ⟨gr, hgr⟩ : ∃ g, g = w.heap.size := ⟨_, rfl⟩
  rw [← hgr] at O2 S0 ⊢
  have HG := Lib.hid (show w.heap.size ≤ gr by rw [hgr]; exact Nat.le_refl _)
  clear hgr
  generalize hW : w4.alloc (.cells (fileA Z) 52) = W at *
  clear hW
  generalize w2.heap.size = g1 at *
  generalize w3.heap.size = g2 at *
  generalize w4.heap.size = g3 at *
  refine (H1.out _ S0.out.b).mono ?_
  rintro e u1 ⟨rfl, c1⟩
  have S1 := Lib.hid (S0.out.below c1)
  clear c1 S0 H1
  go_wp2_with fail
  refine (H2.out _ S1.out.b).mono ?_
  rintro e u2 ⟨rfl, c2⟩
  have S2 := Lib.hid (S1.out.below c2)
  clear c2 S1 H2
  go_wp2_with fail
  refine (H3.out _ S2.out.b).mono ?_
  rintro e u3 ⟨rfl, c3⟩
  have S3 := Lib.hid (S2.out.below c3)
  clear c3 S2 H3
  have qx0 := S3.out.x.cell 0
  have qx1 := S3.out.x.cell 1
  have qx2 := S3.out.x.cell 2
  have qy0 := S3.out.y.cell 0
  have qy1 := S3.out.y.cell 1
  have qy2 := S3.out.y.cell 2
  have qz0 := S3.out.z.cell 0
  have qz1 := S3.out.z.cell 1
  have qz2 := S3.out.z.cell 2
  go_wp2_with fail
  refine (HB.out _).mono ?_
  rintro e u4 ⟨rfl, c4⟩
  have S4 := Lib.hid ((S3.out.below c4).below ((Below.refl _ _).alloc (Nat.le_refl _) (.cells #[.string r.1.1, .int .i64 r.1.2.1, .string r.1.2.2] 52)))
  have F5 := Lib.hid (Blk.new u4 52 #[.string r.1.1, .int .i64 r.1.2.1, .string r.1.2.2])
  have o5 := (S3.out.below c4).r.lt
  have NE := Lib.hid (show gr ≠ u4.heap.size by omega)
  clear o5 c4 S3 qx0 qx1 qx2 qy0 qy1 qy2 qz0 qz1 qz2 HB
  go_upto_region 10 with fail
  generalize hW5 : u4.alloc (.cells #[.string r.1.1, .int .i64 r.1.2.1, .string r.1.2.2] 52) = W5 at *
  clear hW5
  generalize u4.heap.size = g5 at *
  have ne5 := NE.out
  have y0 := F5.out.cell 0
  have y1 := F5.out.cell 1
  have y2 := F5.out.cell 2
  have sr0 := S4.out.r.cell 0
  have sf0 := S4.out.r.frozen 0
  have sr1 := S4.out.r.cell 1
  have sf1 := S4.out.r.frozen 1
  have sr2 := S4.out.r.cell 2
  have sf2 := S4.out.r.frozen 2
  go_wp2_with fail
  exact bodyPost_ret (results_row_tmp2 (fn := Tryz.f17) rfl _ _ gr 52 (#[.string r.1.1, .int .i64 r.1.2.1, .string r.1.2.2]) (0, 0) _ rfl (row52 S4.out.r rfl _ _ _) Tryz.underlying52 rfl fSize52) rfl ⟨by first | rfl | simp_all, ((S4.out.b.setCell (p := ⟨gr, 0, none⟩) HG.out _).setCell (p := ⟨gr, 1, none⟩) HG.out _).setCell (p := ⟨gr, 2, none⟩) HG.out _⟩
set_option maxRecDepth 100000 in
set_option maxHeartbeats 4000000 in
theorem refOne_5 (w : World) (p : ByteArray) (vb vo vt : Value) (a n : ByteArray) (X Y Z : Option Fl) (GX : GetsX p vb X w) (GY : GetsX p vo Y w) (GZ : GetsX p vt Z w) (L1 : LikeX p vo vt false w) (L2 : LikeX p vb vt false w) (L3 : LikeX p vb vo false w) (hy : Y.isSome = true) (hz : Z.isSome = false) :
    Calls Tryz.prog 17 #[.string p, vb, vo, vt, .string a, .string n] w (OneTold (Y, true) w) := by
  have HX := Lib.hid GX
  unfold GetsX at HX
  have HY := Lib.hid GY
  unfold GetsX at HY
  have HZ := Lib.hid GZ
  unfold GetsX at HZ
  have H1 := Lib.hid L1
  unfold LikeX FlagTo at H1
  have H2 := Lib.hid L2
  unfold LikeX FlagTo at H2
  have H3 := Lib.hid L3
  unfold LikeX FlagTo at H3
  clear GX GY GZ L1 L2 L3
  unfold OneTold
  have B1 := Lib.hid ((Below.refl w.heap.size w).alloc (Nat.le_refl _) (.cells #[.string ⟨#[]⟩, .int .i64 0, .string ⟨#[]⟩] 52))
  have R1 := Lib.hid (Blk.new w 52 #[.string ⟨#[]⟩, .int .i64 0, .string ⟨#[]⟩])
  go_enter Tryz.func17, Tryz.ntmps17
  go_wp2_with fail
  refine (HX.out _ B1.out).mono ?_
  rintro e w2 ⟨rfl, b2⟩
  have B2 := Lib.hid ((B1.out.trans (b2.mono B1.out.size)).alloc (by have := B1.out.size; have := b2.size; omega) (.cells (fileA X) 52))
  have R2 := Lib.hid ((R1.out.below b2 R1.out.lt).alloc (.cells (fileA X) 52))
  have X2 := Lib.hid (Blk.new w2 52 (fileA X))
  have o2 := (R1.out.below b2 R1.out.lt).lt
  have O2 := Lib.hid o2
  clear b2 o2 B1 R1 HX
  go_wp2_with fail
  refine (HY.out _ B2.out).mono ?_
  rintro e w3 ⟨rfl, b3⟩
  have B3 := Lib.hid ((B2.out.trans (b3.mono B2.out.size)).alloc (by have := B2.out.size; have := b3.size; omega) (.cells (fileA Y) 52))
  have R3 := Lib.hid ((R2.out.below b3 R2.out.lt).alloc (.cells (fileA Y) 52))
  have X3 := Lib.hid ((X2.out.below b3 X2.out.lt).alloc (.cells (fileA Y) 52))
  have Y3 := Lib.hid (Blk.new w3 52 (fileA Y))
  have O3 := Lib.hid (X2.out.below b3 X2.out.lt).lt
  clear b3 B2 R2 X2 HY
  go_wp2_with fail
  refine (HZ.out _ B3.out).mono ?_
  rintro e w4 ⟨rfl, b4⟩
  have S0 : Hid (Sx w w.heap.size w2.heap.size w3.heap.size w4.heap.size X Y Z (w4.alloc (.cells (fileA Z) 52))) := Lib.hid ⟨(B3.out.trans (b4.mono B3.out.size)).alloc (by have := B3.out.size; have := b4.size; omega) (.cells (fileA Z) 52), (R3.out.below b4 R3.out.lt).alloc _, (X3.out.below b4 X3.out.lt).alloc _, (Y3.out.below b4 Y3.out.lt).alloc _, Blk.new w4 52 (fileA Z)⟩
  have O4 := Lib.hid (Y3.out.below b4 Y3.out.lt).lt
  clear b4 B3 R3 X3 Y3 HZ
  go_wp2_with fail
  obtain ⟨gr, hgr⟩ : ∃ g, g = w.heap.size := ⟨_, rfl⟩
  rw [← hgr] at O2 S0 ⊢
  have HG := Lib.hid (show w.heap.size ≤ gr by rw [hgr]; exact Nat.le_refl _)
  clear hgr
  generalize hW : w4.alloc (.cells (fileA Z) 52) = W at *
  clear hW
  generalize w2.heap.size = g1 at *
  generalize w3.heap.size = g2 at *
  generalize w4.heap.size = g3 at *
  refine (H1.out _ S0.out.b).mono ?_
  rintro e u1 ⟨rfl, c1⟩
  have S1 := Lib.hid (S0.out.below c1)
  clear c1 S0 H1
  go_wp2_with fail
  refine (H2.out _ S1.out.b).mono ?_
  rintro e u2 ⟨rfl, c2⟩
  have S2 := Lib.hid (S1.out.below c2)
  clear c2 S1 H2
  go_wp2_with fail
  refine (H3.out _ S2.out.b).mono ?_
  rintro e u3 ⟨rfl, c3⟩
  have S3 := Lib.hid (S2.out.below c3)
  clear c3 S2 H3
  have qr0 := S3.out.r.cell 0
  have qf0 := S3.out.r.frozen 0
  have qr1 := S3.out.r.cell 1
  have qf1 := S3.out.r.frozen 1
  have qr2 := S3.out.r.cell 2
  have qf2 := S3.out.r.frozen 2
  have qy0 := S3.out.y.cell 0
  have qy1 := S3.out.y.cell 1
  have qy2 := S3.out.y.cell 2
  go_wp2_with fail
  exact bodyPost_ret (results_row_tmp2 (fn := Tryz.f17) rfl _ _ gr 52 (fileA Y) (0, 0) _ rfl (row52 S3.out.r rfl _ _ _) Tryz.underlying52 rfl fSize52) rfl ⟨by first | rfl | simp_all, ((S3.out.b.setCell (p := ⟨gr, 0, none⟩) HG.out _).setCell (p := ⟨gr, 1, none⟩) HG.out _).setCell (p := ⟨gr, 2, none⟩) HG.out _⟩
set_option maxRecDepth 100000 in
set_option maxHeartbeats 4000000 in
theorem refOne_6 (w : World) (p : ByteArray) (vb vo vt : Value) (a n : ByteArray) (X Y Z : Option Fl) (GX : GetsX p vb X w) (GY : GetsX p vo Y w) (GZ : GetsX p vt Z w) (L1 : LikeX p vo vt false w) (L2 : LikeX p vb vt false w) (L3 : LikeX p vb vo false w) (hy : Y.isSome = false) :
    Calls Tryz.prog 17 #[.string p, vb, vo, vt, .string a, .string n] w (OneTold (Z, true) w) := by
  have HX := Lib.hid GX
  unfold GetsX at HX
  have HY := Lib.hid GY
  unfold GetsX at HY
  have HZ := Lib.hid GZ
  unfold GetsX at HZ
  have H1 := Lib.hid L1
  unfold LikeX FlagTo at H1
  have H2 := Lib.hid L2
  unfold LikeX FlagTo at H2
  have H3 := Lib.hid L3
  unfold LikeX FlagTo at H3
  clear GX GY GZ L1 L2 L3
  unfold OneTold
  have B1 := Lib.hid ((Below.refl w.heap.size w).alloc (Nat.le_refl _) (.cells #[.string ⟨#[]⟩, .int .i64 0, .string ⟨#[]⟩] 52))
  have R1 := Lib.hid (Blk.new w 52 #[.string ⟨#[]⟩, .int .i64 0, .string ⟨#[]⟩])
  go_enter Tryz.func17, Tryz.ntmps17
  go_wp2_with fail
  refine (HX.out _ B1.out).mono ?_
  rintro e w2 ⟨rfl, b2⟩
  have B2 := Lib.hid ((B1.out.trans (b2.mono B1.out.size)).alloc (by have := B1.out.size; have := b2.size; omega) (.cells (fileA X) 52))
  have R2 := Lib.hid ((R1.out.below b2 R1.out.lt).alloc (.cells (fileA X) 52))
  have X2 := Lib.hid (Blk.new w2 52 (fileA X))
  have o2 := (R1.out.below b2 R1.out.lt).lt
  have O2 := Lib.hid o2
  clear b2 o2 B1 R1 HX
  go_wp2_with fail
  refine (HY.out _ B2.out).mono ?_
  rintro e w3 ⟨rfl, b3⟩
  have B3 := Lib.hid ((B2.out.trans (b3.mono B2.out.size)).alloc (by have := B2.out.size; have := b3.size; omega) (.cells (fileA Y) 52))
  have R3 := Lib.hid ((R2.out.below b3 R2.out.lt).alloc (.cells (fileA Y) 52))
  have X3 := Lib.hid ((X2.out.below b3 X2.out.lt).alloc (.cells (fileA Y) 52))
  have Y3 := Lib.hid (Blk.new w3 52 (fileA Y))
  have O3 := Lib.hid (X2.out.below b3 X2.out.lt).lt
  clear b3 B2 R2 X2 HY
  go_wp2_with fail
  refine (HZ.out _ B3.out).mono ?_
  rintro e w4 ⟨rfl, b4⟩
  have S0 : Hid (Sx w w.heap.size w2.heap.size w3.heap.size w4.heap.size X Y Z (w4.alloc (.cells (fileA Z) 52))) := Lib.hid ⟨(B3.out.trans (b4.mono B3.out.size)).alloc (by have := B3.out.size; have := b4.size; omega) (.cells (fileA Z) 52), (R3.out.below b4 R3.out.lt).alloc _, (X3.out.below b4 X3.out.lt).alloc _, (Y3.out.below b4 Y3.out.lt).alloc _, Blk.new w4 52 (fileA Z)⟩
  have O4 := Lib.hid (Y3.out.below b4 Y3.out.lt).lt
  clear b4 B3 R3 X3 Y3 HZ
  go_wp2_with fail
  obtain ⟨gr, hgr⟩ : ∃ g, g = w.heap.size := ⟨_, rfl⟩
  rw [← hgr] at O2 S0 ⊢
  have HG := Lib.hid (show w.heap.size ≤ gr by rw [hgr]; exact Nat.le_refl _)
  clear hgr
  generalize hW : w4.alloc (.cells (fileA Z) 52) = W at *
  clear hW
  generalize w2.heap.size = g1 at *
  generalize w3.heap.size = g2 at *
  generalize w4.heap.size = g3 at *
  refine (H1.out _ S0.out.b).mono ?_
  rintro e u1 ⟨rfl, c1⟩
  have S1 := Lib.hid (S0.out.below c1)
  clear c1 S0 H1
  go_wp2_with fail
  refine (H2.out _ S1.out.b).mono ?_
  rintro e u2 ⟨rfl, c2⟩
  have S2 := Lib.hid (S1.out.below c2)
  clear c2 S1 H2
  go_wp2_with fail
  refine (H3.out _ S2.out.b).mono ?_
  rintro e u3 ⟨rfl, c3⟩
  have S3 := Lib.hid (S2.out.below c3)
  clear c3 S2 H3
  have qr0 := S3.out.r.cell 0
  have qf0 := S3.out.r.frozen 0
  have qr1 := S3.out.r.cell 1
  have qf1 := S3.out.r.frozen 1
  have qr2 := S3.out.r.cell 2
  have qf2 := S3.out.r.frozen 2
  have qz0 := S3.out.z.cell 0
  have qz1 := S3.out.z.cell 1
  have qz2 := S3.out.z.cell 2
  go_wp2_with fail
  exact bodyPost_ret (results_row_tmp2 (fn := Tryz.f17) rfl _ _ gr 52 (fileA Z) (0, 0) _ rfl (row52 S3.out.r rfl _ _ _) Tryz.underlying52 rfl fSize52) rfl ⟨by first | rfl | simp_all, ((S3.out.b.setCell (p := ⟨gr, 0, none⟩) HG.out _).setCell (p := ⟨gr, 1, none⟩) HG.out _).setCell (p := ⟨gr, 2, none⟩) HG.out _⟩
theorem refOne_any (w : World) (p : ByteArray) (vb vo vt : Value) (b o t : List Fl) (a n : ByteArray) (hb : Reads 3 cF w vb b) (ho : Reads 3 cF w vo o) (ht : Reads 3 cF w vt t) (lb : b.length ≤ 100000) (lo : o.length ≤ 100000) (lt : t.length ≤ 100000)
    (x : TxO) (hT : getF o p ≠ getF t p → getF b p ≠ getF t p → getF b p ≠ getF o p → ¬ sD (getF o p) = sD (getF t p) → ∀ W, RefSays x (sD (getF b p)) (sD (getF o p)) (sD (getF t p)) a n W) (hx : ∀ s k, x = some (s, k) → k ≤ 1000000 ∧ s.size ≤ 1000000000) :
    Calls Tryz.prog 17 #[.string p, vb, vo, vt, .string a, .string n] w (OneTold (oneV x p (getF b p) (getF o p) (getF t p)) w) := by
  have gets : ∀ (v : Value) (l : List Fl), Reads 3 cF w v l → l.length ≤ 100000 → GetsX p v (getF l p) w := fun v l h hl W hW => by
    have := refGet_any W v l p (h.below hW) hl
    unfold Got at this
    rw [gotV_eq] at this
    exact this
  have likes : ∀ (v u : Value) (l m : List Fl) (q : Bool), Reads 3 cF w v l → Reads 3 cF w u m → l.length ≤ 100000 → m.length ≤ 100000 → decide (getF l p = getF m p) = q → LikeX p v u q w := fun v u l m q h g hl hm hq W hW => by
    rw [← hq]
    exact like_any W v u l m p (h.below hW) (g.below hW) hl hm
  have GX := gets vb b hb lb
  have GY := gets vo o ho lo
  have GZ := gets vt t ht lt
  by_cases h1 : getF o p = getF t p
  · rw [show oneV x p (getF b p) (getF o p) (getF t p) = (getF o p, false) by unfold oneV; rw [if_pos (.inl h1)]]
    exact refOne_1 w p vb vo vt a n _ _ _ GX GY GZ (likes vo vt o t true ho ht lo lt (decide_eq_true h1))
  have L1 := likes vo vt o t false ho ht lo lt (decide_eq_false h1)
  by_cases h2 : getF b p = getF t p
  · rw [show oneV x p (getF b p) (getF o p) (getF t p) = (getF o p, false) by unfold oneV; rw [if_pos (.inr h2)]]
    exact refOne_2 w p vb vo vt a n _ _ _ GX GY GZ L1 (likes vb vt b t true hb ht lb lt (decide_eq_true h2))
  have L2 := likes vb vt b t false hb ht lb lt (decide_eq_false h2)
  have n1 : ¬ (getF o p = getF t p ∨ getF b p = getF t p) := fun h => h.elim h1 h2
  by_cases h3 : getF b p = getF o p
  · rw [show oneV x p (getF b p) (getF o p) (getF t p) = (getF t p, false) by unfold oneV; rw [if_neg n1, if_pos h3]]
    exact refOne_3 w p vb vo vt a n _ _ _ GX GY GZ L1 L2 (likes vb vo b o true hb ho lb lo (decide_eq_true h3))
  have L3 := likes vb vo b o false hb ho lb lo (decide_eq_false h3)
  cases hy : (getF o p).isSome with
  | false =>
    rw [show oneV x p (getF b p) (getF o p) (getF t p) = (getF t p, true) by unfold oneV; rw [if_neg n1, if_neg h3, if_neg (fun h => by rw [hy] at h; cases h.1), if_neg (fun h => by rw [hy] at h; cases h)]]
    exact refOne_6 w p vb vo vt a n _ _ _ GX GY GZ L1 L2 L3 hy
  | true =>
    cases hz : (getF t p).isSome with
    | false =>
      rw [show oneV x p (getF b p) (getF o p) (getF t p) = (getF o p, true) by unfold oneV; rw [if_neg n1, if_neg h3, if_neg (fun h => by rw [hz] at h; cases h.2), if_pos hy]]
      exact refOne_5 w p vb vo vt a n _ _ _ GX GY GZ L1 L2 L3 hy hz
    | true =>
      have hp : sP (getF o p) = p := by
        cases h : getF o p with
        | none => rw [h] at hy; cases hy
        | some f => exact getF_path h
      have e : oneV x p (getF b p) (getF o p) (getF t p) = (some (bothV x (getF b p) (getF o p) (getF t p)).1, (bothV x (getF b p) (getF o p) (getF t p)).2) := by
        unfold oneV bothV
        rw [if_neg n1, if_neg h3, if_pos ⟨hy, hz⟩, hp]
      rw [e]
      exact refOne_4 w p vb vo vt a n _ _ _ GX GY GZ L1 L2 L3 hy hz _ fun W => both_any W _ _ _ a n x (hT h1 h2 h3) hx
end Go.Proofs.YtapcnmnnichamaaGreatDoor

namespace Go.Proofs.YtapcnmnnichamaaGreatDoor
open Go Go.RowKit

theorem ref_says (b y z a n : ByteArray) (h1 : b.size ≤ 20000) (h2 : y.size ≤ 20000) (h3 : z.size ≤ 20000) (h4 : a.size ≤ 1000) (h5 : n.size ≤ 1000) (W : World) : RefSays (txV b y z a n) b y z a n W := by
  unfold txV
  by_cases h : (Mg.lns b).length ≤ 256 ∧ (Mg.lns y).length ≤ 256 ∧ (Mg.lns z).length ≤ 256
  · rw [if_pos h]
    exact (Mg.refText_good W b y z a n h1 h2 h3 h4 h5 h.1 h.2.1 h.2.2).mono fun _ _ ⟨he, hb⟩ => ⟨he, hb⟩
  · rw [if_neg h]
    exact (Mg.refText_bad W b y z a n h1 h2 h3 h).mono fun _ _ ⟨⟨g, he⟩, hb⟩ => ⟨⟨g, he⟩, hb⟩
end Go.Proofs.YtapcnmnnichamaaGreatDoor

namespace Go.Proofs.YtapcnmnnichamaaGreatDoor
open Go Go.RowKit

def YesNo (w : World) (e : Ending) (w' : World) : Prop := ∃ b : Bool, e = .returned (.bool b) ∧ w' = w
set_option maxHeartbeats 4000000 in
theorem short_any (w : World) (v : Value) (l : List Fl) (h : Reads 3 cF w v l) : Calls Tryz.prog 9 #[v] w (YesNo w) := by
  obtain ⟨A, c, rfl⟩ := h.form
  have hn := h.len
  have hnm : l.length ≤ 9223372036854775807 := by have := hn.2; unfold maxLen at this; omega
  have HO := Lib.hid h
  clear h hn
  by_cases hbig : 20 < l.length
  · have hb : (20 : Int) < (l.length : Int) := by omega
    by_cases h1 : (64 : Int) < (l.length : Int)
    · go_enter Tryz.func9, Tryz.ntmps9
      go_wp2
      go_ret
      exact ⟨_, rfl, rfl⟩
    · go_enter Tryz.func9, Tryz.ntmps9
      go_wp2
      go_ret
      exact ⟨_, rfl, rfl⟩
  · have hb : ¬ (20 : Int) < (l.length : Int) := by omega
    go_enter Tryz.func9, Tryz.ntmps9
    go_wp2
    go_loopw [3, 4] (fun s3 s4 wr => ∃ (k : Nat) (m : Int), k ≤ l.length ∧ s4 = .int .i64 k ∧ s3 = .int .i64 m ∧ SameW wr w) (fun _ s4 _ => l.length - (intOf s4).toNat)
    case atStart => exact ⟨0, 0, Nat.zero_le _, rfl, rfl, rfl⟩
    case round =>
      obtain ⟨k, m, hk, rfl, rfl, hw⟩ := hrel
      unfold SameW at hw
      subst hw
      by_cases hlt : k < l.length
      · obtain ⟨x, hx⟩ : ∃ x, l[k]? = some x := ⟨_, List.getElem?_eq_getElem hlt⟩
        obtain ⟨ad, rfl, c0, c1, c2⟩ := Fils.at_ HO.out hx
        obtain ⟨p, mo, d⟩ := x
        have k0 : (0 : Int) ≤ (k : Int) := Int.natCast_nonneg _
        have k1 : (k : Int) < (l.length : Int) := by omega
        clear hx
        by_cases h1 : (300 : Int) < (d.size : Int)
        · by_cases h2 : (d.size : Int) ≤ 4096
          · go_wp2
            go_ret
            exact ⟨_, rfl, rfl⟩
          · go_wp2
            go_roundw
            case rel => exact ⟨k + 1, _, by omega, by go_num, rfl, rfl⟩
            case measure => simp [intOf]; omega
        · go_wp2
          go_roundw
          case rel => exact ⟨k + 1, _, by omega, by go_num, rfl, rfl⟩
          case measure => simp [intOf]; omega
      · obtain rfl : k = l.length := by omega
        by_cases h1 : m ≤ 3000
        · go_wp2
          go_ret
          exact ⟨_, rfl, rfl⟩
        · go_wp2
          go_ret
          exact ⟨_, rfl, rfl⟩
end Go.Proofs.YtapcnmnnichamaaGreatDoor

namespace Go.Proofs.YtapcnmnnichamaaGreatDoor
open Go Go.RowKit

theorem sD_le {l : List Fl} (h : ∀ x ∈ l, x.1.size ≤ 100 ∧ x.2.2.size ≤ 5000) (p : ByteArray) : (sD (getF l p)).size ≤ 20000 := by
  cases hf : getF l p with
  | none => exact Nat.zero_le _
  | some f => have := (h f (getF_mem hf)).2; show f.2.2.size ≤ 20000; omega
set_option maxRecDepth 100000 in
set_option maxHeartbeats 8000000 in
theorem treesOne_any (w : World) (p : ByteArray) (vb vo vt : Value) (b o t : List Fl) (hb : Reads 3 cF w vb b) (ho : Reads 3 cF w vo o) (ht : Reads 3 cF w vt t) :
    Calls Tryz.prog 4 #[.string p, vb, vo, vt] w fun e w' => e = .returned (.bool true) ∧ Below w.heap.size w w' := by
  have KN := Lib.hid (known16_yes w)
  have RW := Lib.hid fun W (hW : Below w.heap.size w W) => (⟨hb.below hW, ho.below hW, ht.below hW⟩ : Reads 3 cF W vb b ∧ Reads 3 cF W vo o ∧ Reads 3 cF W vt t)
  obtain ⟨Ab, cb', rfl⟩ := hb.form
  obtain ⟨Ao, co, rfl⟩ := ho.form
  obtain ⟨At, ct, rfl⟩ := ht.form
  clear hb ho ht
  go_enter Tryz.func4, Tryz.ntmps4
  go_wp2_with fail
  refine KN.out.mono ?_
  rintro e w0 ⟨rfl, b0⟩
  have B0 := Lib.hid b0
  clear KN b0
  by_cases hp : (100 : Int) < (p.size : Int)
  · go_wp2
    go_ret
    exact ⟨rfl, B0.out⟩
  have C1 := Lib.hid (fewF_any w0 _ b (RW.out _ B0.out).1)
  go_wp2_with fail
  refine C1.out.mono ?_
  rintro e w1 ⟨f1, rfl, hf1, q1, hq1⟩
  have B1 := Lib.hid (show Below w.heap.size w w1 by rw [hq1]; exact below_drewN B0.out q1)
  have Fb := Lib.hid hf1
  clear hf1 hq1 C1 B0
  cases f1 with
  | false =>
    go_wp2
    go_ret
    exact ⟨rfl, B1.out⟩
  | true =>
    have Sb := Lib.hid (show SizedD b from fun x hx => by have := (Fb.out rfl).2 x hx; omega)
    have Nb := Lib.hid (show b.length ≤ 100000 by have := (Fb.out rfl).1; omega)
    have Db := Lib.hid (sD_le (Fb.out rfl).2 p)
    have C2 := Lib.hid (fewF_any w1 _ o (RW.out _ B1.out).2.1)
    go_wp2_with fail
    refine C2.out.mono ?_
    rintro e w2 ⟨f2, rfl, hf2, q2, hq2⟩
    have B2 := Lib.hid (show Below w.heap.size w w2 by rw [hq2]; exact below_drewN B1.out q2)
    have Fo := Lib.hid hf2
    clear hf2 hq2 C2 B1
    cases f2 with
    | false =>
      go_wp2
      go_ret
      exact ⟨rfl, B2.out⟩
    | true =>
      have So := Lib.hid (show SizedD o from fun x hx => by have := (Fo.out rfl).2 x hx; omega)
      have No := Lib.hid (show o.length ≤ 100000 by have := (Fo.out rfl).1; omega)
      have Do := Lib.hid (sD_le (Fo.out rfl).2 p)
      have C3 := Lib.hid (fewF_any w2 _ t (RW.out _ B2.out).2.2)
      go_wp2_with fail
      refine C3.out.mono ?_
      rintro e w3 ⟨f3, rfl, hf3, q3, hq3⟩
      have B3 := Lib.hid (show Below w.heap.size w w3 by rw [hq3]; exact below_drewN B2.out q3)
      have Ft := Lib.hid hf3
      clear hf3 hq3 C3 B2
      cases f3 with
      | false =>
        go_wp2
        go_ret
        exact ⟨rfl, B3.out⟩
      | true =>
        have St := Lib.hid (show SizedD t from fun x hx => by have := (Ft.out rfl).2 x hx; omega)
        have Nt := Lib.hid (show t.length ≤ 100000 by have := (Ft.out rfl).1; omega)
        have Dt := Lib.hid (sD_le (Ft.out rfl).2 p)
        have C4 := Lib.hid (short_any w3 _ b (RW.out _ B3.out).1)
        go_wp2_with fail
        refine C4.out.mono ?_
        rintro e w4 ⟨f4, rfl, hq4⟩
        have B4 := Lib.hid (show Below w.heap.size w w4 by rw [hq4]; exact B3.out)
        clear hq4 C4 B3
        cases f4 with
        | false =>
          go_wp2
          go_ret
          exact ⟨rfl, B4.out⟩
        | true =>
          have C5 := Lib.hid (short_any w4 _ o (RW.out _ B4.out).2.1)
          go_wp2_with fail
          refine C5.out.mono ?_
          rintro e w5 ⟨f5, rfl, hq5⟩
          have B5 := Lib.hid (show Below w.heap.size w w5 by rw [hq5]; exact B4.out)
          clear hq5 C5 B4
          cases f5 with
          | false =>
            go_wp2
            go_ret
            exact ⟨rfl, B5.out⟩
          | true =>
            have C6 := Lib.hid (short_any w5 _ t (RW.out _ B5.out).2.2)
            go_wp2_with fail
            refine C6.out.mono ?_
            rintro e w6 ⟨f6, rfl, hq6⟩
            have B6 := Lib.hid (show Below w.heap.size w w6 by rw [hq6]; exact B5.out)
            clear hq6 C6 B5
            cases f6 with
            | false =>
              go_wp2
              go_ret
              exact ⟨rfl, B6.out⟩
            | true =>
              have C7 := Lib.hid (checkF_any w6 _ b (RW.out _ B6.out).1 Sb.out Nb.out)
              go_wp2_with fail
              refine C7.out.mono ?_
              rintro e w7 (⟨kb, rfl, b7⟩ | ⟨i, k, F, _, rfl, _, _, b7⟩)
              case inr =>
                have B7 := Lib.hid (B6.out.trans (b7.mono B6.out.size))
                clear b7
                go_wp2
                go_ret
                exact ⟨rfl, B7.out⟩
              have B7 := Lib.hid (B6.out.trans (b7.mono B6.out.size))
              have Rb := Lib.hid (chkF_rise kb)
              clear b7 kb C7 B6
              have C8 := Lib.hid (checkF_any w7 _ o (RW.out _ B7.out).2.1 So.out No.out)
              go_wp2_with fail
              refine C8.out.mono ?_
              rintro e w8 (⟨ko, rfl, b8⟩ | ⟨i, k, F, _, rfl, _, _, b8⟩)
              case inr =>
                have B8 := Lib.hid (B7.out.trans (b8.mono B7.out.size))
                clear b8
                go_wp2
                go_ret
                exact ⟨rfl, B8.out⟩
              have B8 := Lib.hid (B7.out.trans (b8.mono B7.out.size))
              have Ro := Lib.hid (chkF_rise ko)
              clear b8 ko C8 B7
              have C9 := Lib.hid (checkF_any w8 _ t (RW.out _ B8.out).2.2 St.out Nt.out)
              go_wp2_with fail
              refine C9.out.mono ?_
              rintro e w9 (⟨kt, rfl, b9⟩ | ⟨i, k, F, _, rfl, _, _, b9⟩)
              case inr =>
                have B9 := Lib.hid (B8.out.trans (b9.mono B8.out.size))
                clear b9
                go_wp2
                go_ret
                exact ⟨rfl, B9.out⟩
              have B9 := Lib.hid (B8.out.trans (b9.mono B8.out.size))
              have Rt := Lib.hid (chkF_rise kt)
              clear b9 kt C9 B8
              have ON := Lib.hid fun W (hW : Below w.heap.size w W) => one_any W p _ _ _ b o t ⟨#[120]⟩ ⟨#[121]⟩ (RW.out W hW).1 (RW.out W hW).2.1 (RW.out W hW).2.2 Rb.out Ro.out Rt.out Nb.out No.out Nt.out (txV (sD (getF b p)) (sD (getF o p)) (sD (getF t p)) ⟨#[120]⟩ ⟨#[121]⟩) (fun _ _ _ V => text_says _ _ _ _ _ Db.out Do.out Dt.out (by decide) (by decide) V) (fun s k h => txV_bound _ _ _ _ _ Db.out Do.out Dt.out (by decide) (by decide) s k h)
              have RN := Lib.hid fun W (x y z : Value) (hx : Reads 3 cF W x b) (hy : Reads 3 cF W y o) (hz : Reads 3 cF W z t) => refOne_any W p x y z b o t ⟨#[120]⟩ ⟨#[121]⟩ hx hy hz Nb.out No.out Nt.out (txV (sD (getF b p)) (sD (getF o p)) (sD (getF t p)) ⟨#[120]⟩ ⟨#[121]⟩) (fun _ _ _ _ V => ref_says _ _ _ _ _ Db.out Do.out Dt.out (by decide) (by decide) V) (fun s k h => txV_bound _ _ _ _ _ Db.out Do.out Dt.out (by decide) (by decide) s k h)
              have O1 := Lib.hid fun W (hW : Below w.heap.size w W) => lawOf_any W _ b (RW.out W hW).1 Nb.out
              have O2 := Lib.hid fun W (hW : Below w.heap.size w W) => lawOf_any W _ o (RW.out W hW).2.1 No.out
              have O3 := Lib.hid fun W (hW : Below w.heap.size w W) => lawOf_any W _ t (RW.out W hW).2.2 Nt.out
              generalize oneV (txV (sD (getF b p)) (sD (getF o p)) (sD (getF t p)) ⟨#[120]⟩ ⟨#[121]⟩) p (getF b p) (getF o p) (getF t p) = R at *
              unfold OneTold at ON RN
              unfold OwnTo at O1 O2 O3
              clear Fb Fo Ft Sb So St Db Do Dt Rb Ro Rt RW
              go_wp2_with fail
              refine (ON.out _ B9.out).mono ?_
              rintro e u1 ⟨rfl, c1⟩
              have E1 := Lib.hid ((B9.out.trans (c1.mono B9.out.size)).alloc (Nat.le_trans B9.out.size c1.size) (.cells (fileA R.1) 49))
              have X1 := Lib.hid (Blk.new u1 49 (fileA R.1))
              clear c1 B9 ON
              go_wp2_with fail
              generalize hV : u1.alloc (.cells (fileA R.1) 49) = v1 at *
              clear hV
              generalize u1.heap.size = g1 at *
              refine (O1.out _ E1.out).mono ?_
              rintro e u2 ⟨y1, rfl, r1, c2⟩
              have E2 := Lib.hid (E1.out.trans (c2.mono E1.out.size))
              have X2 := Lib.hid (X1.out.below c2 X1.out.lt)
              have Q1 := Lib.hid (Reads.of_own (enc := cF) (fun _ => rfl) r1)
              clear r1 c2 E1 X1 O1
              go_wp2_with fail
              refine (O2.out _ E2.out).mono ?_
              rintro e u3 ⟨y2, rfl, r2, c3⟩
              have E3 := Lib.hid (E2.out.trans (c3.mono E2.out.size))
              have X3 := Lib.hid (X2.out.below c3 X2.out.lt)
              have Q1b := Lib.hid (Q1.out.below c3)
              have Q2 := Lib.hid (Reads.of_own (enc := cF) (fun _ => rfl) r2)
              clear r2 c3 E2 X2 O2 Q1
              go_wp2_with fail
              refine (O3.out _ E3.out).mono ?_
              rintro e u4 ⟨y3, rfl, r3, c4⟩
              have E4 := Lib.hid (E3.out.trans (c4.mono E3.out.size))
              have X4 := Lib.hid (X3.out.below c4 X3.out.lt)
              have P4 := Lib.hid (RN.out u4 y1 y2 y3 (Q1b.out.below c4) (Q2.out.below c4) (Reads.of_own (enc := cF) (fun _ => rfl) r3))
              clear r3 c4 E3 X3 O3 Q1b Q2 RN
              go_wp2_with fail
              refine P4.out.mono ?_
              rintro e u5 ⟨rfl, c5⟩
              have E5 := Lib.hid ((E4.out.trans (c5.mono E4.out.size)).alloc (Nat.le_trans E4.out.size c5.size) (.cells (fileA R.1) 52))
              have X5 := Lib.hid ((X4.out.below c5 X4.out.lt).alloc (.cells (fileA R.1) 52))
              have Y5 := Lib.hid (Blk.new u5 52 (fileA R.1))
              clear c5 E4 X4 P4
              go_upto_region 7 with fail
              generalize hV : u5.alloc (.cells (fileA R.1) 52) = v5 at *
              clear hV
              generalize u5.heap.size = g5 at *
              have x0 := X5.out.cell 0
              have x1 := X5.out.cell 1
              have x2 := X5.out.cell 2
              have z0 := Y5.out.cell 0
              have z1 := Y5.out.cell 1
              have z2 := Y5.out.cell 2
              go_wp2_with fail
              go_ret
              exact ⟨by first | rfl | simp, E5.out⟩
end Go.Proofs.YtapcnmnnichamaaGreatDoor
