/-
  FilesRename's walk.
-/
import Derived.Test.YtcnmlgmlijgmhaaDoorSgD
import Derived.Test.YtcnmlgmlijgmhaaDoorSgC
namespace Go.Proofs.YtcnmlgmlijgmhaaDoor
open Go Go.RowKit Go.Shelf Go.Maps

set_option maxRecDepth 100000 in
set_option maxHeartbeats 4000000 in
theorem stat_no {w : World} {F bf bs n : Nat} {T S : Tr} {vp : Value} {q now ino ops : Int} {armed : Int} {vk : Value} (h : FsIs w F bf bs n T S vp q now ino ops false armed vk) (p : ByteArray) (hp : p.size ≤ 1000) (hf : getT T p = none) :
    Calls Tryd.prog 22 #[.pointer (some ⟨F, 0, none⟩), .string p] w fun e w' => e = .returned (.tuple #[stV 0 0 0 0, .int .i64 5]) ∧ Below w.heap.size w w' := by
  have d1 := (Below.refl w.heap.size w).alloc (Nat.le_refl _) (.cells #[.int .i64 0, .int .i64 0, .int .i64 0, .int .i64 0] 51)
  have FS1 := Lib.hid (h.below d1)
  have K1 := Lib.hid (Blk.new w 51 #[.int .i64 0, .int .i64 0, .int .i64 0, .int .i64 0])
  have D1 := Lib.hid d1
  have x7 := FS1.out.x.cell 7
  have x0 := FS1.out.x.cell 0
  have LK := lacks_any _ bf n T p FS1.out.f (by unfold maxLen; omega)
  rw [hf] at LK
  have LK := Lib.hid (show Calls Tryd.prog 58 #[.map (some bf), .string p] (w.alloc (.cells #[.int .i64 0, .int .i64 0, .int .i64 0, .int .i64 0] 51)) fun e w' => e = .returned (.int .i64 5) ∧ Below _ (w.alloc (.cells #[.int .i64 0, .int .i64 0, .int .i64 0, .int .i64 0] 51)) w' from LK)
  clear h d1 hf
  go_enter Tryd.func22, Tryd.ntmps22
  go_wp2_with fail
  refine LK.out.mono ?_
  rintro e w2 ⟨rfl, b2⟩
  have K2 := Lib.hid (K1.out.below b2 K1.out.lt)
  have D2 := Lib.hid (D1.out.trans (b2.mono D1.out.size))
  clear b2 LK x7 x0
  have hlt := K2.out.lt
  have r0 := K2.out.cell 0
  have r1 := K2.out.cell 1
  have r2 := K2.out.cell 2
  have r3 := K2.out.cell 3
  have q0 := K2.out.frozen 0
  have q1 := K2.out.frozen 1
  have q2 := K2.out.frozen 2
  have q3 := K2.out.frozen 3
  have E := Lib.hid (show Blk ((((w2.setCell ⟨w.heap.size, 0, none⟩ (.int .i64 0)).setCell ⟨w.heap.size, 1, none⟩ (.int .i64 0)).setCell ⟨w.heap.size, 2, none⟩ (.int .i64 0)).setCell ⟨w.heap.size, 3, none⟩ (.int .i64 0)) w.heap.size 51 #[.int .i64 0, .int .i64 0, .int .i64 0, .int .i64 0] from by
    simpa using (((K2.out.set_ 0 (.int .i64 0)).set_ 1 (.int .i64 0)).set_ 2 (.int .i64 0)).set_ 3 (.int .i64 0))
  have HB := Lib.hid ((((D2.out.setCell (p := ⟨w.heap.size, 0, none⟩) (Nat.le_refl _) (.int .i64 0)).setCell (p := ⟨w.heap.size, 1, none⟩) (Nat.le_refl _) (.int .i64 0)).setCell (p := ⟨w.heap.size, 2, none⟩) (Nat.le_refl _) (.int .i64 0)).setCell (p := ⟨w.heap.size, 3, none⟩) (Nat.le_refl _) (.int .i64 0))
  go_wp2_with fail
  exact bodyPost_ret (results_row_tmp (fn := Tryd.f22) rfl _ _ w.heap.size 51 #[.int .i64 0, .int .i64 0, .int .i64 0, .int .i64 0] (0, 0) _ rfl E.out Tryd.underlying51 rfl (by kernel_rfl)) rfl ⟨rfl, HB.out⟩
theorem below_turns {B : Nat} {w w1 w' : World} {X : Nat → Prop} (h : Below B w w1) (ht : Turns w1 w' X) (hx : ∀ k, X k → B ≤ k) (hB : B ≤ w1.heap.size) : Below B w w' :=
  ⟨ht.os.trans h.os, ht.tape.trans h.tape, ht.output.trans h.output, Nat.le_trans h.size ht.size, fun k hk => (ht.block k (by omega) (fun hf => by have := hx k hf; omega)).trans (h.block k hk)⟩
abbrev rF (sa : ByteArray) : FV := ⟨2, 0, 1, sa⟩
def rT1 (sa : ByteArray) : Tr := [(sA, rF sa)]
def rT2 (sa sb : ByteArray) : Tr := [(sA, rF sa), (sB, ⟨1, 0, 2, sb⟩)]
def rT3 (sa : ByteArray) : Tr := [(sB, rF sa)]
def rD1 (sa : ByteArray) : DK := ⟨rT1 sa, [], [(0, ⟨#[]⟩, sA, 2, 0, 1, sa)], 0, 0, 1, 1, false, 0, []⟩
def rD2 (sa sb : ByteArray) : DK := ⟨rT2 sa sb, [], [(0, ⟨#[]⟩, sA, 2, 0, 1, sa), (0, ⟨#[]⟩, sB, 1, 0, 2, sb)], 0, 0, 2, 2, false, 0, []⟩
def rS (T : Tr) (k : Int) : DK := ⟨T, T, [], 0, 1, k, k, false, 0, []⟩
def rR (T : Tr) (k : Int) (sa : ByteArray) : DK := ⟨rT3 sa, T, [renOp sA sB], 0, 1, k, k + 1, false, 0, []⟩
def rE (T : Tr) (k : Int) : DK := ⟨T, T, [], 0, 1, k, k + 1, false, 0, []⟩
theorem rD1_eq (sa : ByteArray) : stepD (D0 0) (0, ⟨#[]⟩, sA, 2, (D0 0).now, inoOf (D0 0).T sA (D0 0).ino, sa) (inoNew (D0 0).T sA (D0 0).ino) = rD1 sa := by first | rfl | kernel_rfl
theorem rD2_eq (sa sb : ByteArray) : stepD (rD1 sa) (0, ⟨#[]⟩, sB, 1, (rD1 sa).now, inoOf (rD1 sa).T sB (rD1 sa).ino, sb) (inoNew (rD1 sa).T sB (rD1 sa).ino) = rD2 sa sb := by first | rfl | kernel_rfl
theorem rR1_eq (sa : ByteArray) : renD (rS (rT1 sa) 1) sA sB = rR (rT1 sa) 1 sa := by first | rfl | kernel_rfl
theorem rR2_eq (sa sb : ByteArray) : renD (rS (rT2 sa sb) 2) sA sB = rR (rT2 sa sb) 2 sa := by first | rfl | kernel_rfl
theorem rR1_e (sa : ByteArray) : renE (rS (rT1 sa) 1) sA sB = 0 := by first | rfl | kernel_rfl
theorem rR2_e (sa sb : ByteArray) : renE (rS (rT2 sa sb) 2) sA sB = 0 := by first | rfl | kernel_rfl
theorem rC1t (sa : ByteArray) : { cutD (rR (rT1 sa) 1 sa) [true] with off := false } = rE (rT3 sa) 1 := by first | rfl | kernel_rfl
theorem rC2t (sa sb : ByteArray) : { cutD (rR (rT2 sa sb) 2 sa) [true] with off := false } = rE (rT3 sa) 2 := by first | rfl | kernel_rfl
theorem rC1f (sa : ByteArray) : { cutD (rR (rT1 sa) 1 sa) [false] with off := false } = rE (rT1 sa) 1 := by first | rfl | kernel_rfl
theorem rC2f (sa sb : ByteArray) : { cutD (rR (rT2 sa sb) 2 sa) [false] with off := false } = rE (rT2 sa sb) 2 := by first | rfl | kernel_rfl
theorem rNo (sa : ByteArray) : (rD1 sa).T.any (badX ⟨#[]⟩ sB) = false := by first | rfl | kernel_rfl
theorem rG1a (sa : ByteArray) : getT (rT1 sa) sA = some (rF sa) := by first | rfl | kernel_rfl
theorem rG1b (sa : ByteArray) : getT (rT1 sa) sB = none := by first | rfl | kernel_rfl
theorem rG2a (sa sb : ByteArray) : getT (rT2 sa sb) sA = some (rF sa) := by first | rfl | kernel_rfl
theorem rG2b (sa sb : ByteArray) : getT (rT2 sa sb) sB = some ⟨1, 0, 2, sb⟩ := by first | rfl | kernel_rfl
theorem rG3a (sa : ByteArray) : getT (rT3 sa) sA = none := by first | rfl | kernel_rfl
theorem rG3b (sa : ByteArray) : getT (rT3 sa) sB = some (rF sa) := by first | rfl | kernel_rfl
theorem reads_one {w : World} {g : Nat} {x : Bool} (z : w.heap[g]? = some (.cells #[.bool x] 4 (0, 0))) : Reads 1 cB w (.slice (some ⟨g, 0, none⟩) 1 1) [x] := by
  refine ⟨some ⟨g, 0, none⟩, 1, rfl, Nat.le_refl _, by decide, by simp, fun ad hA i y hy j u hu => ?_⟩
  obtain rfl := Option.some.inj hA
  have hi : i = 0 := by
    have := (List.getElem?_eq_some_iff.1 hy).1
    simp at this
    exact this
  subst hi
  obtain rfl : x = y := by simpa using hy
  have hj : j = 0 := by
    have := (List.getElem?_eq_some_iff.1 hu).1
    simp [cB] at this
    exact this
  subst hj
  obtain rfl : Value.bool x = u := by simpa [cB] using hu
  unfold adr
  rw [add_zero_addr]
  exact cell_of_row w _ _ _ _ _ z
set_option maxRecDepth 100000 in
set_option maxHeartbeats 8000000 in
theorem filesRename_tt (w : World) (A0 : Option Addr) (l0 : List UInt8) (c0 : Nat) (A1 : Option Addr) (l1 : List UInt8) (c1 : Nat) (r0 : BytesAt w A0 l0) (n0 : A0 = none → l0 = []) (r1 : BytesAt w A1 l1) (n1 : A1 = none → l1 = []) :
    Calls Tryd.prog 5 #[.slice A0 l0.length c0, .slice A1 l1.length c1, .bool true, .bool true] w fun e w' => e = .returned (.bool true) ∧ Below w.heap.size w w' := by
  have KN := Lib.hid (known5_any w)
  have CA := Lib.hid (fun W' hb => conv_bytes w W' A0 l0 c0 r0 n0 hb)
  have CB := Lib.hid (fun W' hb => conv_bytes w W' A1 l1 c1 r1 n1 hb)
  obtain ⟨sa, hsa⟩ : ∃ s : ByteArray, s = ⟨l0.toArray⟩ := ⟨_, rfl⟩
  obtain ⟨sb, hsb⟩ : ∃ s : ByteArray, s = ⟨l1.toArray⟩ := ⟨_, rfl⟩
  have ea : sa.size = l0.length := by rw [hsa]; simp [ByteArray.size]
  have eb : sb.size = l1.length := by rw [hsb]; simp [ByteArray.size]
  rw [← hsa] at CA
  rw [← hsb] at CB
  have EA := Lib.hid ea
  have EB := Lib.hid eb
  clear r0 n0 r1 n1 hsa hsb ea eb
  go_enter Tryd.func5, Tryd.ntmps5
  go_wp2_with fail
  refine KN.out.mono ?_
  rintro e wk ⟨rfl, bk⟩
  have BK := Lib.hid bk
  have NW := Lib.hid (new_disk wk 0)
  clear KN bk
  by_cases h0 : 300 < l0.length
  · have d0 : decide ((300 : Int) < (l0.length : Int)) = true := decide_eq_true (by omega)
    go_wp2
    go_ret
    exact ⟨rfl, BK.out⟩
  have d0 : decide ((300 : Int) < (l0.length : Int)) = false := decide_eq_false (by omega)
  by_cases h1 : 300 < l1.length
  · have d1 : decide ((300 : Int) < (l1.length : Int)) = true := decide_eq_true (by omega)
    go_wp2
    go_ret
    exact ⟨rfl, BK.out⟩
  have d1 : decide ((300 : Int) < (l1.length : Int)) = false := decide_eq_false (by omega)
  have HL := Lib.hid (And.intro h0 h1)
  have SZ := Lib.hid BK.out.size
  clear h0 h1
  go_wp2_with fail
  refine NW.out.mono ?_
  rintro e w1 ⟨L1, rfl, dd, b1⟩
  have H1 := Lib.hid dd
  have B1 := Lib.hid (BK.out.trans (b1.mono BK.out.size))
  have S1 := Lib.hid b1.size
  clear dd b1 BK NW d0 d1
  have WR := write_w H1.out rfl rfl sA 2 (.slice A0 l0.length c0) sa ⟨⟨A0, c0, by rw [EA.out]⟩, fun w' ht => CA.out w' (below_turns B1.out ht (fun k hk => Nat.le_trans SZ.out (H1.out.foot_lo k hk)) B1.out.size)⟩ (by have := EA.out; have := HL.out; omega) (.inr rfl) (by decide) rfl (by decide) (by decide) (by decide) (by decide) S1.out (by decide) (by decide) (by decide) (by decide)
  rw [rD1_eq, show stepE (D0 0) = 0 from rfl] at WR
  have WR := Lib.hid WR
  go_wp2_with fail
  refine WR.out.mono ?_
  rintro e w2 ⟨L2, rfl, d2, n2⟩
  have H2 := Lib.hid d2
  have B2 := Lib.hid (below_turns B1.out n2.t (fun k hk => Nat.le_trans SZ.out (H1.out.foot_lo k hk)) B1.out.size)
  have S2 := Lib.hid (Nat.le_trans S1.out n2.t.size)
  have hF := n2.F
  rw [← hF]
  clear d2 n2 WR hF H1 B1 S1
  have WR := write_w H2.out rfl rfl sB 1 (.slice A1 l1.length c1) sb ⟨⟨A1, c1, by rw [EB.out]⟩, fun w' ht => CB.out w' (below_turns B2.out ht (fun k hk => Nat.le_trans SZ.out (H2.out.foot_lo k hk)) B2.out.size)⟩ (by have := EB.out; have := HL.out; omega) (.inl rfl) (by decide) (rNo sa) (by show (0 : Int) ≤ 0 ∧ (0 : Int) ≤ _; omega) (by decide) (by decide) (by show 1 ≤ 100000; omega) S2.out (by show (0 : Int) ≤ 1; omega) (by show (1 : Int) ≤ _; omega) (by show (0 : Int) ≤ 1; omega) (by show (1 : Int) ≤ _; omega)
  rw [rD2_eq, show stepE (rD1 sa) = 0 from rfl] at WR
  have WR := Lib.hid WR
  go_wp2_with fail
  refine WR.out.mono ?_
  rintro e w3 ⟨L3, rfl, d3, n3⟩
  have H3 := Lib.hid d3
  have B3 := Lib.hid (below_turns B2.out n3.t (fun k hk => Nat.le_trans SZ.out (H2.out.foot_lo k hk)) B2.out.size)
  have S3 := Lib.hid (Nat.le_trans S2.out n3.t.size)
  have hF := n3.F
  rw [← hF]
  clear d3 n3 WR hF H2 B2 S2
  have SY := Lib.hid (sync_on H3.out rfl S3.out)
  go_wp2_with fail
  refine SY.out.mono ?_
  rintro e w4 ⟨L4, rfl, d4, n4⟩
  have H4 := Lib.hid d4
  have B4 := Lib.hid (below_turns B3.out n4.t (fun k hk => Nat.le_trans SZ.out (H3.out.foot_lo k hk)) B3.out.size)
  have S4 := Lib.hid (Nat.le_trans S3.out n4.t.size)
  have hF := n4.F
  rw [← hF]
  clear d4 n4 SY hF H3 B3 S3
  have TK := Lib.hid (tick_any H4.out.fs (by show (0 : Int) ≤ 0; omega) (by show (0 : Int) ≤ _; omega))
  have q12 : (sa.size : Int) = (sa.size : Int) := rfl
  go_wp2_with (first
    | (go_at_call 21; refine TK.out.mono ?_; rintro e w5 ⟨rfl, hw5⟩; have H5 := Lib.hid (show DiskIs w5 wk.heap.size L4 _ (rS (rT2 sa sb) 2) from by rw [hw5]; exact H4.out.setNow 1); have B5 := Lib.hid (show Below w.heap.size w w5 from by rw [hw5]; exact B4.out.setCell (p := ⟨L4.F, 4, none⟩) (Nat.le_trans SZ.out H4.out.lo.1) _); have S5 := Lib.hid (show wk.heap.size ≤ w5.heap.size by rw [hw5]; simp; exact S4.out); clear hw5 H4 B4 TK S4; have ST := Lib.hid (show Calls Tryd.prog 22 #[.pointer (some ⟨L4.F, 0, none⟩), .string sA] w5 fun e w' => e = .returned (.tuple #[.agg #[.int .i64 (sa.size : Int), .int .i64 0, .int .i64 1, .int .i64 2], .int .i64 0]) ∧ Below w5.heap.size w5 w' from stat_yes H5.out.fs sA (by decide) (rG2a sa sb)))
    | (go_at_call 22; refine ST.out.mono ?_; rintro e w6 ⟨rfl, b6⟩; have H6 := Lib.hid (H5.out.below b6); have B6 := Lib.hid (B5.out.trans (b6.mono B5.out.size)); have S6 := Lib.hid (Nat.le_trans S5.out b6.size); clear b6 H5 B5 ST S5))
  have K6 := Lib.hid (Blk.new w6 51 #[.int .i64 (sa.size : Int), .int .i64 0, .int .i64 1, .int .i64 2])
  have H7 := Lib.hid (H6.out.alloc (.cells #[.int .i64 (sa.size : Int), .int .i64 0, .int .i64 1, .int .i64 2] 51))
  have B7 := Lib.hid (B6.out.alloc B6.out.size (.cells #[.int .i64 (sa.size : Int), .int .i64 0, .int .i64 1, .int .i64 2] 51))
  have S7 := Lib.hid (show wk.heap.size ≤ (w6.alloc (.cells #[.int .i64 (sa.size : Int), .int .i64 0, .int .i64 1, .int .i64 2] 51)).heap.size by have := S6.out; simp; omega)
  have RN := rename_any H7.out sA sB (by decide) (by decide) (by show (0 : Int) ≤ 0 ∧ (0 : Int) ≤ _; omega) (Nat.le_of_ble_eq_true rfl) (by show 0 ≤ 100000; omega) S7.out (by show (0 : Int) ≤ 2; omega) (by show (2 : Int) ≤ _; omega) (by show (0 : Int) ≤ 2; omega) (by show (2 : Int) ≤ _; omega)
  rw [rR2_e, rR2_eq] at RN
  have RN := Lib.hid RN
  have NX := Lib.hid (show ¬ L4.foot w6.heap.size from fun hf => by have := H6.out.foot_lt _ hf; omega)
  clear H6 B6 S6
  obtain ⟨X, hX⟩ : ∃ X, X = w6.heap.size := ⟨_, rfl⟩
  rw [← hX] at K6 NX ⊢
  clear hX
  go_wp2_with fail
  refine RN.out.mono ?_
  rintro e w8 ⟨L8, rfl, d8, n8⟩
  have H8 := Lib.hid d8
  have B8 := Lib.hid (below_turns B7.out n8.t (fun k hk => Nat.le_trans SZ.out (H7.out.foot_lo k hk)) B7.out.size)
  have S8 := Lib.hid (Nat.le_trans S7.out n8.t.size)
  have K8 := Lib.hid (show Blk w8 X 51 _ from (n8.t.block X K6.out.lt NX.out).trans K6.out)
  have hF := n8.F
  rw [← hF]
  clear d8 n8 RN hF H7 B7 S7 K6 NX
  have PD := Lib.hid (show Calls Tryd.prog 24 #[.pointer (some ⟨L8.F, 0, none⟩)] w8 fun e w' => e = .returned (.int .i64 1) ∧ w8 = w' from pending_any H8.out.fs H8.out.ps)
  have ST := Lib.hid (show Calls Tryd.prog 22 #[.pointer (some ⟨L8.F, 0, none⟩), .string sB] w8 fun e w' => e = .returned (.tuple #[.agg #[.int .i64 (sa.size : Int), .int .i64 0, .int .i64 1, .int .i64 2], .int .i64 0]) ∧ Below w8.heap.size w8 w' from stat_yes H8.out.fs sB (by decide) (rG3b sa))
  go_wp2_with (first
    | (go_at_call 24; refine PD.out.mono ?_; rintro e w' ⟨rfl, rfl⟩)
    | (go_at_call 22; refine ST.out.mono ?_; rintro e w9 ⟨rfl, b9⟩; have H9 := Lib.hid (H8.out.below b9); have B9 := Lib.hid (B8.out.trans (b9.mono B8.out.size)); have S9 := Lib.hid (Nat.le_trans S8.out b9.size); have K9 := Lib.hid (K8.out.below b9 K8.out.lt); clear b9 H8 B8 ST S8 K8 PD))
  have M9 := Lib.hid (Blk.new w9 51 #[.int .i64 (sa.size : Int), .int .i64 0, .int .i64 1, .int .i64 2])
  have H10 := Lib.hid (H9.out.alloc (.cells #[.int .i64 (sa.size : Int), .int .i64 0, .int .i64 1, .int .i64 2] 51))
  have B10 := Lib.hid (B9.out.alloc B9.out.size (.cells #[.int .i64 (sa.size : Int), .int .i64 0, .int .i64 1, .int .i64 2] 51))
  have S10 := Lib.hid (show wk.heap.size ≤ (w9.alloc (.cells #[.int .i64 (sa.size : Int), .int .i64 0, .int .i64 1, .int .i64 2] 51)).heap.size by have := S9.out; simp; omega)
  have K10 := Lib.hid (K9.out.alloc (.cells #[.int .i64 (sa.size : Int), .int .i64 0, .int .i64 1, .int .i64 2] 51))
  have SN := Lib.hid (show Calls Tryd.prog 22 #[.pointer (some ⟨L8.F, 0, none⟩), .string sA] (w9.alloc (.cells #[.int .i64 (sa.size : Int), .int .i64 0, .int .i64 1, .int .i64 2] 51)) fun e w' => e = .returned (.tuple #[.agg #[.int .i64 0, .int .i64 0, .int .i64 0, .int .i64 0], .int .i64 5]) ∧ Below _ (w9.alloc (.cells #[.int .i64 (sa.size : Int), .int .i64 0, .int .i64 1, .int .i64 2] 51)) w' from stat_no H10.out.fs sA (by decide) (rG3a sa))
  clear H9 B9 S9 K9
  obtain ⟨Y, hY⟩ : ∃ Y, Y = w9.heap.size := ⟨_, rfl⟩
  rw [← hY] at M9 ⊢
  clear hY
  go_wp2_with fail
  refine SN.out.mono ?_
  rintro e w11 ⟨rfl, b11⟩
  have b11a := (Below.refl w11.heap.size w11).alloc (Nat.le_refl _) (.cells #[.int .i64 0, .int .i64 0, .int .i64 0, .int .i64 0] 51)
  have H11 := Lib.hid ((H10.out.below b11).alloc (.cells #[.int .i64 0, .int .i64 0, .int .i64 0, .int .i64 0] 51))
  have B11 := Lib.hid ((B10.out.trans (b11.mono B10.out.size)).alloc (B10.out.trans (b11.mono B10.out.size)).size (.cells #[.int .i64 0, .int .i64 0, .int .i64 0, .int .i64 0] 51))
  have S11 := Lib.hid (show wk.heap.size ≤ (w11.alloc (.cells #[.int .i64 0, .int .i64 0, .int .i64 0, .int .i64 0] 51)).heap.size by have := S10.out; have := b11.size; simp at *; omega)
  have K11 := Lib.hid ((K10.out.below b11 K10.out.lt).alloc (.cells #[.int .i64 0, .int .i64 0, .int .i64 0, .int .i64 0] 51))
  have M11 := Lib.hid ((M9.out.below b11 M9.out.lt).alloc (.cells #[.int .i64 0, .int .i64 0, .int .i64 0, .int .i64 0] 51))
  have k0 := K11.out.cell 0
  have k1 := K11.out.cell 1
  have k2 := K11.out.cell 2
  have k3 := K11.out.cell 3
  have m0 := M11.out.cell 0
  have m1 := M11.out.cell 1
  have m2 := M11.out.cell 2
  have m3 := M11.out.cell 3
  clear b11 b11a H10 B10 S10 K10 M9 SN
  obtain ⟨W, hW⟩ : ∃ W, W = w11.alloc (.cells #[.int .i64 0, .int .i64 0, .int .i64 0, .int .i64 0] 51) := ⟨_, rfl⟩
  rw [← hW] at H11 B11 S11 K11 M11 k0 k1 k2 k3 m0 m1 m2 m3
  go_upto_region 16 with fail
  rw [← hW]
  clear hW
  go_wp2_with fail
  have H12 := Lib.hid (H11.out.alloc (.cells #[.bool true] 4))
  have B12 := Lib.hid (B11.out.alloc B11.out.size (.cells #[.bool true] 4))
  have S12 := Lib.hid (show wk.heap.size ≤ (W.alloc (.cells #[.bool true] 4)).heap.size by have := S11.out; simp; omega)
  have RK : ∀ w', (W.alloc (.cells #[.bool true] 4)).grownBy w' (some L8.bs) → Reads 1 cB w' (.slice (some ⟨W.heap.size, 0, none⟩) 1 1) [true] := fun w' hg => reads_one ((hg.block _ (by simp) (fun e => by have := H11.out.fs.s.lt; have := Option.some.inj e; omega)).trans (heap_alloc_new ..))
  have CT := Lib.hid (cut_any H12.out (.slice (some ⟨W.heap.size, 0, none⟩) 1 1) [true] RK (Nat.le_of_ble_eq_true rfl) (Nat.le_of_ble_eq_true rfl) S12.out)
  clear RK k0 k1 k2 k3 m0 m1 m2 m3 K11 M11 H11 B11 S11
  refine CT.out.mono ?_
  rintro e w13 ⟨L13, rfl, d13, n13⟩
  have H13 := Lib.hid d13
  have B13 := Lib.hid (below_turns B12.out n13.t (fun k hk => Nat.le_trans SZ.out (H12.out.foot_lo k hk)) B12.out.size)
  have hF := n13.F
  rw [← hF]
  have ON := Lib.hid (on_any H13.out.fs)
  clear d13 n13 hF CT H12 B12 S12
  go_wp2_with (first
    | (go_at_call 18; refine ON.out.mono ?_; rintro e w14 ⟨rfl, hw14⟩; have H14 := (show DiskIs w14 wk.heap.size L13 _ _ from by rw [hw14]; exact H13.out.setOff false); rw [rC2t] at H14; have H14 := Lib.hid H14; have B14 := Lib.hid (show Below w.heap.size w w14 from by rw [hw14]; exact B13.out.setCell (p := ⟨L13.F, 7, none⟩) (Nat.le_trans SZ.out H13.out.lo.1) _); clear hw14 H13 B13 ON; have RA := Lib.hid (read_no H14.out.fs sA (by decide) (rG3a sa)))
    | (go_at_call 19; go_loud (refine RA.out.mono ?_; rintro e w15 ⟨rfl, b15⟩; have H15 := Lib.hid (H14.out.below b15); have B15 := Lib.hid (B14.out.trans (b15.mono B14.out.size)); clear b15 H14 B14 RA; have RB := Lib.hid (read_yes H15.out.fs sB (by decide) (rG3b sa))))
    | (go_at_call 19; go_loud (refine RB.out.mono ?_; rintro e w16 ⟨vb, rfl, cvb, b16⟩; have B16 := Lib.hid (B15.out.trans (b16.mono B15.out.size)); have cb1 := cvb w16 (Below.refl _ _); have ca1 := CA.out w16 B16.out; have q0 : (sa.toList == sa.toList) = true := beq_self_eq_true _; clear cvb; clear b16 H15 B15 RB)))
  go_ret
  exact ⟨rfl, B16.out⟩
set_option maxRecDepth 100000 in
set_option maxHeartbeats 8000000 in
theorem filesRename_tf (w : World) (A0 : Option Addr) (l0 : List UInt8) (c0 : Nat) (A1 : Option Addr) (l1 : List UInt8) (c1 : Nat) (r0 : BytesAt w A0 l0) (n0 : A0 = none → l0 = []) (r1 : BytesAt w A1 l1) (n1 : A1 = none → l1 = []) :
    Calls Tryd.prog 5 #[.slice A0 l0.length c0, .slice A1 l1.length c1, .bool true, .bool false] w fun e w' => e = .returned (.bool true) ∧ Below w.heap.size w w' := by
  have KN := Lib.hid (known5_any w)
  have CA := Lib.hid (fun W' hb => conv_bytes w W' A0 l0 c0 r0 n0 hb)
  have CB := Lib.hid (fun W' hb => conv_bytes w W' A1 l1 c1 r1 n1 hb)
  obtain ⟨sa, hsa⟩ : ∃ s : ByteArray, s = ⟨l0.toArray⟩ := ⟨_, rfl⟩
  obtain ⟨sb, hsb⟩ : ∃ s : ByteArray, s = ⟨l1.toArray⟩ := ⟨_, rfl⟩
  have ea : sa.size = l0.length := by rw [hsa]; simp [ByteArray.size]
  have eb : sb.size = l1.length := by rw [hsb]; simp [ByteArray.size]
  rw [← hsa] at CA
  rw [← hsb] at CB
  have EA := Lib.hid ea
  have EB := Lib.hid eb
  clear r0 n0 r1 n1 hsa hsb ea eb
  go_enter Tryd.func5, Tryd.ntmps5
  go_wp2_with fail
  refine KN.out.mono ?_
  rintro e wk ⟨rfl, bk⟩
  have BK := Lib.hid bk
  have NW := Lib.hid (new_disk wk 0)
  clear KN bk
  by_cases h0 : 300 < l0.length
  · have d0 : decide ((300 : Int) < (l0.length : Int)) = true := decide_eq_true (by omega)
    go_wp2
    go_ret
    exact ⟨rfl, BK.out⟩
  have d0 : decide ((300 : Int) < (l0.length : Int)) = false := decide_eq_false (by omega)
  by_cases h1 : 300 < l1.length
  · have d1 : decide ((300 : Int) < (l1.length : Int)) = true := decide_eq_true (by omega)
    go_wp2
    go_ret
    exact ⟨rfl, BK.out⟩
  have d1 : decide ((300 : Int) < (l1.length : Int)) = false := decide_eq_false (by omega)
  have HL := Lib.hid (And.intro h0 h1)
  have SZ := Lib.hid BK.out.size
  clear h0 h1
  go_wp2_with fail
  refine NW.out.mono ?_
  rintro e w1 ⟨L1, rfl, dd, b1⟩
  have H1 := Lib.hid dd
  have B1 := Lib.hid (BK.out.trans (b1.mono BK.out.size))
  have S1 := Lib.hid b1.size
  clear dd b1 BK NW d0 d1
  have WR := write_w H1.out rfl rfl sA 2 (.slice A0 l0.length c0) sa ⟨⟨A0, c0, by rw [EA.out]⟩, fun w' ht => CA.out w' (below_turns B1.out ht (fun k hk => Nat.le_trans SZ.out (H1.out.foot_lo k hk)) B1.out.size)⟩ (by have := EA.out; have := HL.out; omega) (.inr rfl) (by decide) rfl (by decide) (by decide) (by decide) (by decide) S1.out (by decide) (by decide) (by decide) (by decide)
  rw [rD1_eq, show stepE (D0 0) = 0 from rfl] at WR
  have WR := Lib.hid WR
  go_wp2_with fail
  refine WR.out.mono ?_
  rintro e w2 ⟨L2, rfl, d2, n2⟩
  have H2 := Lib.hid d2
  have B2 := Lib.hid (below_turns B1.out n2.t (fun k hk => Nat.le_trans SZ.out (H1.out.foot_lo k hk)) B1.out.size)
  have S2 := Lib.hid (Nat.le_trans S1.out n2.t.size)
  have hF := n2.F
  rw [← hF]
  clear d2 n2 WR hF H1 B1 S1
  have WR := write_w H2.out rfl rfl sB 1 (.slice A1 l1.length c1) sb ⟨⟨A1, c1, by rw [EB.out]⟩, fun w' ht => CB.out w' (below_turns B2.out ht (fun k hk => Nat.le_trans SZ.out (H2.out.foot_lo k hk)) B2.out.size)⟩ (by have := EB.out; have := HL.out; omega) (.inl rfl) (by decide) (rNo sa) (by show (0 : Int) ≤ 0 ∧ (0 : Int) ≤ _; omega) (by decide) (by decide) (by show 1 ≤ 100000; omega) S2.out (by show (0 : Int) ≤ 1; omega) (by show (1 : Int) ≤ _; omega) (by show (0 : Int) ≤ 1; omega) (by show (1 : Int) ≤ _; omega)
  rw [rD2_eq, show stepE (rD1 sa) = 0 from rfl] at WR
  have WR := Lib.hid WR
  go_wp2_with fail
  refine WR.out.mono ?_
  rintro e w3 ⟨L3, rfl, d3, n3⟩
  have H3 := Lib.hid d3
  have B3 := Lib.hid (below_turns B2.out n3.t (fun k hk => Nat.le_trans SZ.out (H2.out.foot_lo k hk)) B2.out.size)
  have S3 := Lib.hid (Nat.le_trans S2.out n3.t.size)
  have hF := n3.F
  rw [← hF]
  clear d3 n3 WR hF H2 B2 S2
  have SY := Lib.hid (sync_on H3.out rfl S3.out)
  go_wp2_with fail
  refine SY.out.mono ?_
  rintro e w4 ⟨L4, rfl, d4, n4⟩
  have H4 := Lib.hid d4
  have B4 := Lib.hid (below_turns B3.out n4.t (fun k hk => Nat.le_trans SZ.out (H3.out.foot_lo k hk)) B3.out.size)
  have S4 := Lib.hid (Nat.le_trans S3.out n4.t.size)
  have hF := n4.F
  rw [← hF]
  clear d4 n4 SY hF H3 B3 S3
  have TK := Lib.hid (tick_any H4.out.fs (by show (0 : Int) ≤ 0; omega) (by show (0 : Int) ≤ _; omega))
  have q12 : (sa.size : Int) = (sa.size : Int) := rfl
  go_wp2_with (first
    | (go_at_call 21; refine TK.out.mono ?_; rintro e w5 ⟨rfl, hw5⟩; have H5 := Lib.hid (show DiskIs w5 wk.heap.size L4 _ (rS (rT2 sa sb) 2) from by rw [hw5]; exact H4.out.setNow 1); have B5 := Lib.hid (show Below w.heap.size w w5 from by rw [hw5]; exact B4.out.setCell (p := ⟨L4.F, 4, none⟩) (Nat.le_trans SZ.out H4.out.lo.1) _); have S5 := Lib.hid (show wk.heap.size ≤ w5.heap.size by rw [hw5]; simp; exact S4.out); clear hw5 H4 B4 TK S4; have ST := Lib.hid (show Calls Tryd.prog 22 #[.pointer (some ⟨L4.F, 0, none⟩), .string sA] w5 fun e w' => e = .returned (.tuple #[.agg #[.int .i64 (sa.size : Int), .int .i64 0, .int .i64 1, .int .i64 2], .int .i64 0]) ∧ Below w5.heap.size w5 w' from stat_yes H5.out.fs sA (by decide) (rG2a sa sb)))
    | (go_at_call 22; refine ST.out.mono ?_; rintro e w6 ⟨rfl, b6⟩; have H6 := Lib.hid (H5.out.below b6); have B6 := Lib.hid (B5.out.trans (b6.mono B5.out.size)); have S6 := Lib.hid (Nat.le_trans S5.out b6.size); clear b6 H5 B5 ST S5))
  have K6 := Lib.hid (Blk.new w6 51 #[.int .i64 (sa.size : Int), .int .i64 0, .int .i64 1, .int .i64 2])
  have H7 := Lib.hid (H6.out.alloc (.cells #[.int .i64 (sa.size : Int), .int .i64 0, .int .i64 1, .int .i64 2] 51))
  have B7 := Lib.hid (B6.out.alloc B6.out.size (.cells #[.int .i64 (sa.size : Int), .int .i64 0, .int .i64 1, .int .i64 2] 51))
  have S7 := Lib.hid (show wk.heap.size ≤ (w6.alloc (.cells #[.int .i64 (sa.size : Int), .int .i64 0, .int .i64 1, .int .i64 2] 51)).heap.size by have := S6.out; simp; omega)
  have RN := rename_any H7.out sA sB (by decide) (by decide) (by show (0 : Int) ≤ 0 ∧ (0 : Int) ≤ _; omega) (Nat.le_of_ble_eq_true rfl) (by show 0 ≤ 100000; omega) S7.out (by show (0 : Int) ≤ 2; omega) (by show (2 : Int) ≤ _; omega) (by show (0 : Int) ≤ 2; omega) (by show (2 : Int) ≤ _; omega)
  rw [rR2_e, rR2_eq] at RN
  have RN := Lib.hid RN
  have NX := Lib.hid (show ¬ L4.foot w6.heap.size from fun hf => by have := H6.out.foot_lt _ hf; omega)
  clear H6 B6 S6
  obtain ⟨X, hX⟩ : ∃ X, X = w6.heap.size := ⟨_, rfl⟩
  rw [← hX] at K6 NX ⊢
  clear hX
  go_wp2_with fail
  refine RN.out.mono ?_
  rintro e w8 ⟨L8, rfl, d8, n8⟩
  have H8 := Lib.hid d8
  have B8 := Lib.hid (below_turns B7.out n8.t (fun k hk => Nat.le_trans SZ.out (H7.out.foot_lo k hk)) B7.out.size)
  have S8 := Lib.hid (Nat.le_trans S7.out n8.t.size)
  have K8 := Lib.hid (show Blk w8 X 51 _ from (n8.t.block X K6.out.lt NX.out).trans K6.out)
  have hF := n8.F
  rw [← hF]
  clear d8 n8 RN hF H7 B7 S7 K6 NX
  have PD := Lib.hid (show Calls Tryd.prog 24 #[.pointer (some ⟨L8.F, 0, none⟩)] w8 fun e w' => e = .returned (.int .i64 1) ∧ w8 = w' from pending_any H8.out.fs H8.out.ps)
  have ST := Lib.hid (show Calls Tryd.prog 22 #[.pointer (some ⟨L8.F, 0, none⟩), .string sB] w8 fun e w' => e = .returned (.tuple #[.agg #[.int .i64 (sa.size : Int), .int .i64 0, .int .i64 1, .int .i64 2], .int .i64 0]) ∧ Below w8.heap.size w8 w' from stat_yes H8.out.fs sB (by decide) (rG3b sa))
  go_wp2_with (first
    | (go_at_call 24; refine PD.out.mono ?_; rintro e w' ⟨rfl, rfl⟩)
    | (go_at_call 22; refine ST.out.mono ?_; rintro e w9 ⟨rfl, b9⟩; have H9 := Lib.hid (H8.out.below b9); have B9 := Lib.hid (B8.out.trans (b9.mono B8.out.size)); have S9 := Lib.hid (Nat.le_trans S8.out b9.size); have K9 := Lib.hid (K8.out.below b9 K8.out.lt); clear b9 H8 B8 ST S8 K8 PD))
  have M9 := Lib.hid (Blk.new w9 51 #[.int .i64 (sa.size : Int), .int .i64 0, .int .i64 1, .int .i64 2])
  have H10 := Lib.hid (H9.out.alloc (.cells #[.int .i64 (sa.size : Int), .int .i64 0, .int .i64 1, .int .i64 2] 51))
  have B10 := Lib.hid (B9.out.alloc B9.out.size (.cells #[.int .i64 (sa.size : Int), .int .i64 0, .int .i64 1, .int .i64 2] 51))
  have S10 := Lib.hid (show wk.heap.size ≤ (w9.alloc (.cells #[.int .i64 (sa.size : Int), .int .i64 0, .int .i64 1, .int .i64 2] 51)).heap.size by have := S9.out; simp; omega)
  have K10 := Lib.hid (K9.out.alloc (.cells #[.int .i64 (sa.size : Int), .int .i64 0, .int .i64 1, .int .i64 2] 51))
  have SN := Lib.hid (show Calls Tryd.prog 22 #[.pointer (some ⟨L8.F, 0, none⟩), .string sA] (w9.alloc (.cells #[.int .i64 (sa.size : Int), .int .i64 0, .int .i64 1, .int .i64 2] 51)) fun e w' => e = .returned (.tuple #[.agg #[.int .i64 0, .int .i64 0, .int .i64 0, .int .i64 0], .int .i64 5]) ∧ Below _ (w9.alloc (.cells #[.int .i64 (sa.size : Int), .int .i64 0, .int .i64 1, .int .i64 2] 51)) w' from stat_no H10.out.fs sA (by decide) (rG3a sa))
  clear H9 B9 S9 K9
  obtain ⟨Y, hY⟩ : ∃ Y, Y = w9.heap.size := ⟨_, rfl⟩
  rw [← hY] at M9 ⊢
  clear hY
  go_wp2_with fail
  refine SN.out.mono ?_
  rintro e w11 ⟨rfl, b11⟩
  have b11a := (Below.refl w11.heap.size w11).alloc (Nat.le_refl _) (.cells #[.int .i64 0, .int .i64 0, .int .i64 0, .int .i64 0] 51)
  have H11 := Lib.hid ((H10.out.below b11).alloc (.cells #[.int .i64 0, .int .i64 0, .int .i64 0, .int .i64 0] 51))
  have B11 := Lib.hid ((B10.out.trans (b11.mono B10.out.size)).alloc (B10.out.trans (b11.mono B10.out.size)).size (.cells #[.int .i64 0, .int .i64 0, .int .i64 0, .int .i64 0] 51))
  have S11 := Lib.hid (show wk.heap.size ≤ (w11.alloc (.cells #[.int .i64 0, .int .i64 0, .int .i64 0, .int .i64 0] 51)).heap.size by have := S10.out; have := b11.size; simp at *; omega)
  have K11 := Lib.hid ((K10.out.below b11 K10.out.lt).alloc (.cells #[.int .i64 0, .int .i64 0, .int .i64 0, .int .i64 0] 51))
  have M11 := Lib.hid ((M9.out.below b11 M9.out.lt).alloc (.cells #[.int .i64 0, .int .i64 0, .int .i64 0, .int .i64 0] 51))
  have k0 := K11.out.cell 0
  have k1 := K11.out.cell 1
  have k2 := K11.out.cell 2
  have k3 := K11.out.cell 3
  have m0 := M11.out.cell 0
  have m1 := M11.out.cell 1
  have m2 := M11.out.cell 2
  have m3 := M11.out.cell 3
  clear b11 b11a H10 B10 S10 K10 M9 SN
  obtain ⟨W, hW⟩ : ∃ W, W = w11.alloc (.cells #[.int .i64 0, .int .i64 0, .int .i64 0, .int .i64 0] 51) := ⟨_, rfl⟩
  rw [← hW] at H11 B11 S11 K11 M11 k0 k1 k2 k3 m0 m1 m2 m3
  go_upto_region 16 with fail
  rw [← hW]
  clear hW
  go_wp2_with fail
  have H12 := Lib.hid (H11.out.alloc (.cells #[.bool false] 4))
  have B12 := Lib.hid (B11.out.alloc B11.out.size (.cells #[.bool false] 4))
  have S12 := Lib.hid (show wk.heap.size ≤ (W.alloc (.cells #[.bool false] 4)).heap.size by have := S11.out; simp; omega)
  have RK : ∀ w', (W.alloc (.cells #[.bool false] 4)).grownBy w' (some L8.bs) → Reads 1 cB w' (.slice (some ⟨W.heap.size, 0, none⟩) 1 1) [false] := fun w' hg => reads_one ((hg.block _ (by simp) (fun e => by have := H11.out.fs.s.lt; have := Option.some.inj e; omega)).trans (heap_alloc_new ..))
  have CT := Lib.hid (cut_any H12.out (.slice (some ⟨W.heap.size, 0, none⟩) 1 1) [false] RK (Nat.le_of_ble_eq_true rfl) (Nat.le_of_ble_eq_true rfl) S12.out)
  clear RK k0 k1 k2 k3 m0 m1 m2 m3 K11 M11 H11 B11 S11
  refine CT.out.mono ?_
  rintro e w13 ⟨L13, rfl, d13, n13⟩
  have H13 := Lib.hid d13
  have B13 := Lib.hid (below_turns B12.out n13.t (fun k hk => Nat.le_trans SZ.out (H12.out.foot_lo k hk)) B12.out.size)
  have hF := n13.F
  rw [← hF]
  have ON := Lib.hid (on_any H13.out.fs)
  clear d13 n13 hF CT H12 B12 S12
  go_wp2_with (first
    | (go_at_call 18; refine ON.out.mono ?_; rintro e w14 ⟨rfl, hw14⟩; have H14 := (show DiskIs w14 wk.heap.size L13 _ _ from by rw [hw14]; exact H13.out.setOff false); rw [rC2f] at H14; have H14 := Lib.hid H14; have B14 := Lib.hid (show Below w.heap.size w w14 from by rw [hw14]; exact B13.out.setCell (p := ⟨L13.F, 7, none⟩) (Nat.le_trans SZ.out H13.out.lo.1) _); clear hw14 H13 B13 ON; have RA := Lib.hid (read_yes H14.out.fs sA (by decide) (rG2a sa sb)))
    | (go_at_call 19; go_loud (refine RA.out.mono ?_; rintro e w15 ⟨va, rfl, cva, b15⟩; have H15 := Lib.hid (H14.out.below b15); have B15 := Lib.hid (B14.out.trans (b15.mono B14.out.size)); have CVA := Lib.hid cva; clear cva; clear b15 H14 B14 RA; have RB := Lib.hid (read_yes H15.out.fs sB (by decide) (rG2b sa sb))))
    | (go_at_call 19; go_loud (refine RB.out.mono ?_; rintro e w16 ⟨vb, rfl, cvb, b16⟩; have B16 := Lib.hid (B15.out.trans (b16.mono B15.out.size)); have cv1 := CVA.out w16 b16; have cb1 := cvb w16 (Below.refl _ _); have ca1 := CA.out w16 B16.out; have ca2 := CB.out w16 B16.out; have q0 : (sa.toList == sa.toList) = true := beq_self_eq_true _; have q1 : (sb.toList == sb.toList) = true := beq_self_eq_true _; clear cvb CVA; clear b16 H15 B15 RB)))
  go_ret
  exact ⟨rfl, B16.out⟩
set_option maxRecDepth 100000 in
set_option maxHeartbeats 8000000 in
theorem filesRename_ft (w : World) (A0 : Option Addr) (l0 : List UInt8) (c0 : Nat) (A1 : Option Addr) (l1 : List UInt8) (c1 : Nat) (r0 : BytesAt w A0 l0) (n0 : A0 = none → l0 = []) (r1 : BytesAt w A1 l1) (n1 : A1 = none → l1 = []) :
    Calls Tryd.prog 5 #[.slice A0 l0.length c0, .slice A1 l1.length c1, .bool false, .bool true] w fun e w' => e = .returned (.bool true) ∧ Below w.heap.size w w' := by
  have KN := Lib.hid (known5_any w)
  have CA := Lib.hid (fun W' hb => conv_bytes w W' A0 l0 c0 r0 n0 hb)
  have CB := Lib.hid (fun W' hb => conv_bytes w W' A1 l1 c1 r1 n1 hb)
  obtain ⟨sa, hsa⟩ : ∃ s : ByteArray, s = ⟨l0.toArray⟩ := ⟨_, rfl⟩
  obtain ⟨sb, hsb⟩ : ∃ s : ByteArray, s = ⟨l1.toArray⟩ := ⟨_, rfl⟩
  have ea : sa.size = l0.length := by rw [hsa]; simp [ByteArray.size]
  have eb : sb.size = l1.length := by rw [hsb]; simp [ByteArray.size]
  rw [← hsa] at CA
  rw [← hsb] at CB
  have EA := Lib.hid ea
  have EB := Lib.hid eb
  clear r0 n0 r1 n1 hsa hsb ea eb
  go_enter Tryd.func5, Tryd.ntmps5
  go_wp2_with fail
  refine KN.out.mono ?_
  rintro e wk ⟨rfl, bk⟩
  have BK := Lib.hid bk
  have NW := Lib.hid (new_disk wk 0)
  clear KN bk
  by_cases h0 : 300 < l0.length
  · have d0 : decide ((300 : Int) < (l0.length : Int)) = true := decide_eq_true (by omega)
    go_wp2
    go_ret
    exact ⟨rfl, BK.out⟩
  have d0 : decide ((300 : Int) < (l0.length : Int)) = false := decide_eq_false (by omega)
  by_cases h1 : 300 < l1.length
  · have d1 : decide ((300 : Int) < (l1.length : Int)) = true := decide_eq_true (by omega)
    go_wp2
    go_ret
    exact ⟨rfl, BK.out⟩
  have d1 : decide ((300 : Int) < (l1.length : Int)) = false := decide_eq_false (by omega)
  have HL := Lib.hid (And.intro h0 h1)
  have SZ := Lib.hid BK.out.size
  clear h0 h1
  go_wp2_with fail
  refine NW.out.mono ?_
  rintro e w1 ⟨L1, rfl, dd, b1⟩
  have H1 := Lib.hid dd
  have B1 := Lib.hid (BK.out.trans (b1.mono BK.out.size))
  have S1 := Lib.hid b1.size
  clear dd b1 BK NW d0 d1
  have WR := write_w H1.out rfl rfl sA 2 (.slice A0 l0.length c0) sa ⟨⟨A0, c0, by rw [EA.out]⟩, fun w' ht => CA.out w' (below_turns B1.out ht (fun k hk => Nat.le_trans SZ.out (H1.out.foot_lo k hk)) B1.out.size)⟩ (by have := EA.out; have := HL.out; omega) (.inr rfl) (by decide) rfl (by decide) (by decide) (by decide) (by decide) S1.out (by decide) (by decide) (by decide) (by decide)
  rw [rD1_eq, show stepE (D0 0) = 0 from rfl] at WR
  have WR := Lib.hid WR
  go_wp2_with fail
  refine WR.out.mono ?_
  rintro e w2 ⟨L2, rfl, d2, n2⟩
  have H2 := Lib.hid d2
  have B2 := Lib.hid (below_turns B1.out n2.t (fun k hk => Nat.le_trans SZ.out (H1.out.foot_lo k hk)) B1.out.size)
  have S2 := Lib.hid (Nat.le_trans S1.out n2.t.size)
  have hF := n2.F
  rw [← hF]
  clear d2 n2 WR hF H1 B1 S1
  have SY := Lib.hid (sync_on H2.out rfl S2.out)
  go_wp2_with fail
  refine SY.out.mono ?_
  rintro e w4 ⟨L4, rfl, d4, n4⟩
  have H4 := Lib.hid d4
  have B4 := Lib.hid (below_turns B2.out n4.t (fun k hk => Nat.le_trans SZ.out (H2.out.foot_lo k hk)) B2.out.size)
  have S4 := Lib.hid (Nat.le_trans S2.out n4.t.size)
  have hF := n4.F
  rw [← hF]
  clear d4 n4 SY hF H2 B2 S2
  have TK := Lib.hid (tick_any H4.out.fs (by show (0 : Int) ≤ 0; omega) (by show (0 : Int) ≤ _; omega))
  have q12 : (sa.size : Int) = (sa.size : Int) := rfl
  go_wp2_with (first
    | (go_at_call 21; refine TK.out.mono ?_; rintro e w5 ⟨rfl, hw5⟩; have H5 := Lib.hid (show DiskIs w5 wk.heap.size L4 _ (rS (rT1 sa) 1) from by rw [hw5]; exact H4.out.setNow 1); have B5 := Lib.hid (show Below w.heap.size w w5 from by rw [hw5]; exact B4.out.setCell (p := ⟨L4.F, 4, none⟩) (Nat.le_trans SZ.out H4.out.lo.1) _); have S5 := Lib.hid (show wk.heap.size ≤ w5.heap.size by rw [hw5]; simp; exact S4.out); clear hw5 H4 B4 TK S4; have ST := Lib.hid (show Calls Tryd.prog 22 #[.pointer (some ⟨L4.F, 0, none⟩), .string sA] w5 fun e w' => e = .returned (.tuple #[.agg #[.int .i64 (sa.size : Int), .int .i64 0, .int .i64 1, .int .i64 2], .int .i64 0]) ∧ Below w5.heap.size w5 w' from stat_yes H5.out.fs sA (by decide) (rG1a sa)))
    | (go_at_call 22; refine ST.out.mono ?_; rintro e w6 ⟨rfl, b6⟩; have H6 := Lib.hid (H5.out.below b6); have B6 := Lib.hid (B5.out.trans (b6.mono B5.out.size)); have S6 := Lib.hid (Nat.le_trans S5.out b6.size); clear b6 H5 B5 ST S5))
  have K6 := Lib.hid (Blk.new w6 51 #[.int .i64 (sa.size : Int), .int .i64 0, .int .i64 1, .int .i64 2])
  have H7 := Lib.hid (H6.out.alloc (.cells #[.int .i64 (sa.size : Int), .int .i64 0, .int .i64 1, .int .i64 2] 51))
  have B7 := Lib.hid (B6.out.alloc B6.out.size (.cells #[.int .i64 (sa.size : Int), .int .i64 0, .int .i64 1, .int .i64 2] 51))
  have S7 := Lib.hid (show wk.heap.size ≤ (w6.alloc (.cells #[.int .i64 (sa.size : Int), .int .i64 0, .int .i64 1, .int .i64 2] 51)).heap.size by have := S6.out; simp; omega)
  have RN := rename_any H7.out sA sB (by decide) (by decide) (by show (0 : Int) ≤ 0 ∧ (0 : Int) ≤ _; omega) (Nat.le_of_ble_eq_true rfl) (by show 0 ≤ 100000; omega) S7.out (by show (0 : Int) ≤ 1; omega) (by show (1 : Int) ≤ _; omega) (by show (0 : Int) ≤ 1; omega) (by show (1 : Int) ≤ _; omega)
  rw [rR1_e, rR1_eq] at RN
  have RN := Lib.hid RN
  have NX := Lib.hid (show ¬ L4.foot w6.heap.size from fun hf => by have := H6.out.foot_lt _ hf; omega)
  clear H6 B6 S6
  obtain ⟨X, hX⟩ : ∃ X, X = w6.heap.size := ⟨_, rfl⟩
  rw [← hX] at K6 NX ⊢
  clear hX
  go_wp2_with fail
  refine RN.out.mono ?_
  rintro e w8 ⟨L8, rfl, d8, n8⟩
  have H8 := Lib.hid d8
  have B8 := Lib.hid (below_turns B7.out n8.t (fun k hk => Nat.le_trans SZ.out (H7.out.foot_lo k hk)) B7.out.size)
  have S8 := Lib.hid (Nat.le_trans S7.out n8.t.size)
  have K8 := Lib.hid (show Blk w8 X 51 _ from (n8.t.block X K6.out.lt NX.out).trans K6.out)
  have hF := n8.F
  rw [← hF]
  clear d8 n8 RN hF H7 B7 S7 K6 NX
  have PD := Lib.hid (show Calls Tryd.prog 24 #[.pointer (some ⟨L8.F, 0, none⟩)] w8 fun e w' => e = .returned (.int .i64 1) ∧ w8 = w' from pending_any H8.out.fs H8.out.ps)
  have ST := Lib.hid (show Calls Tryd.prog 22 #[.pointer (some ⟨L8.F, 0, none⟩), .string sB] w8 fun e w' => e = .returned (.tuple #[.agg #[.int .i64 (sa.size : Int), .int .i64 0, .int .i64 1, .int .i64 2], .int .i64 0]) ∧ Below w8.heap.size w8 w' from stat_yes H8.out.fs sB (by decide) (rG3b sa))
  go_wp2_with (first
    | (go_at_call 24; refine PD.out.mono ?_; rintro e w' ⟨rfl, rfl⟩)
    | (go_at_call 22; refine ST.out.mono ?_; rintro e w9 ⟨rfl, b9⟩; have H9 := Lib.hid (H8.out.below b9); have B9 := Lib.hid (B8.out.trans (b9.mono B8.out.size)); have S9 := Lib.hid (Nat.le_trans S8.out b9.size); have K9 := Lib.hid (K8.out.below b9 K8.out.lt); clear b9 H8 B8 ST S8 K8 PD))
  have M9 := Lib.hid (Blk.new w9 51 #[.int .i64 (sa.size : Int), .int .i64 0, .int .i64 1, .int .i64 2])
  have H10 := Lib.hid (H9.out.alloc (.cells #[.int .i64 (sa.size : Int), .int .i64 0, .int .i64 1, .int .i64 2] 51))
  have B10 := Lib.hid (B9.out.alloc B9.out.size (.cells #[.int .i64 (sa.size : Int), .int .i64 0, .int .i64 1, .int .i64 2] 51))
  have S10 := Lib.hid (show wk.heap.size ≤ (w9.alloc (.cells #[.int .i64 (sa.size : Int), .int .i64 0, .int .i64 1, .int .i64 2] 51)).heap.size by have := S9.out; simp; omega)
  have K10 := Lib.hid (K9.out.alloc (.cells #[.int .i64 (sa.size : Int), .int .i64 0, .int .i64 1, .int .i64 2] 51))
  have SN := Lib.hid (show Calls Tryd.prog 22 #[.pointer (some ⟨L8.F, 0, none⟩), .string sA] (w9.alloc (.cells #[.int .i64 (sa.size : Int), .int .i64 0, .int .i64 1, .int .i64 2] 51)) fun e w' => e = .returned (.tuple #[.agg #[.int .i64 0, .int .i64 0, .int .i64 0, .int .i64 0], .int .i64 5]) ∧ Below _ (w9.alloc (.cells #[.int .i64 (sa.size : Int), .int .i64 0, .int .i64 1, .int .i64 2] 51)) w' from stat_no H10.out.fs sA (by decide) (rG3a sa))
  clear H9 B9 S9 K9
  obtain ⟨Y, hY⟩ : ∃ Y, Y = w9.heap.size := ⟨_, rfl⟩
  rw [← hY] at M9 ⊢
  clear hY
  go_wp2_with fail
  refine SN.out.mono ?_
  rintro e w11 ⟨rfl, b11⟩
  have b11a := (Below.refl w11.heap.size w11).alloc (Nat.le_refl _) (.cells #[.int .i64 0, .int .i64 0, .int .i64 0, .int .i64 0] 51)
  have H11 := Lib.hid ((H10.out.below b11).alloc (.cells #[.int .i64 0, .int .i64 0, .int .i64 0, .int .i64 0] 51))
  have B11 := Lib.hid ((B10.out.trans (b11.mono B10.out.size)).alloc (B10.out.trans (b11.mono B10.out.size)).size (.cells #[.int .i64 0, .int .i64 0, .int .i64 0, .int .i64 0] 51))
  have S11 := Lib.hid (show wk.heap.size ≤ (w11.alloc (.cells #[.int .i64 0, .int .i64 0, .int .i64 0, .int .i64 0] 51)).heap.size by have := S10.out; have := b11.size; simp at *; omega)
  have K11 := Lib.hid ((K10.out.below b11 K10.out.lt).alloc (.cells #[.int .i64 0, .int .i64 0, .int .i64 0, .int .i64 0] 51))
  have M11 := Lib.hid ((M9.out.below b11 M9.out.lt).alloc (.cells #[.int .i64 0, .int .i64 0, .int .i64 0, .int .i64 0] 51))
  have k0 := K11.out.cell 0
  have k1 := K11.out.cell 1
  have k2 := K11.out.cell 2
  have k3 := K11.out.cell 3
  have m0 := M11.out.cell 0
  have m1 := M11.out.cell 1
  have m2 := M11.out.cell 2
  have m3 := M11.out.cell 3
  clear b11 b11a H10 B10 S10 K10 M9 SN
  obtain ⟨W, hW⟩ : ∃ W, W = w11.alloc (.cells #[.int .i64 0, .int .i64 0, .int .i64 0, .int .i64 0] 51) := ⟨_, rfl⟩
  rw [← hW] at H11 B11 S11 K11 M11 k0 k1 k2 k3 m0 m1 m2 m3
  go_upto_region 16 with fail
  rw [← hW]
  clear hW
  go_wp2_with fail
  have H12 := Lib.hid (H11.out.alloc (.cells #[.bool true] 4))
  have B12 := Lib.hid (B11.out.alloc B11.out.size (.cells #[.bool true] 4))
  have S12 := Lib.hid (show wk.heap.size ≤ (W.alloc (.cells #[.bool true] 4)).heap.size by have := S11.out; simp; omega)
  have RK : ∀ w', (W.alloc (.cells #[.bool true] 4)).grownBy w' (some L8.bs) → Reads 1 cB w' (.slice (some ⟨W.heap.size, 0, none⟩) 1 1) [true] := fun w' hg => reads_one ((hg.block _ (by simp) (fun e => by have := H11.out.fs.s.lt; have := Option.some.inj e; omega)).trans (heap_alloc_new ..))
  have CT := Lib.hid (cut_any H12.out (.slice (some ⟨W.heap.size, 0, none⟩) 1 1) [true] RK (Nat.le_of_ble_eq_true rfl) (Nat.le_of_ble_eq_true rfl) S12.out)
  clear RK k0 k1 k2 k3 m0 m1 m2 m3 K11 M11 H11 B11 S11
  refine CT.out.mono ?_
  rintro e w13 ⟨L13, rfl, d13, n13⟩
  have H13 := Lib.hid d13
  have B13 := Lib.hid (below_turns B12.out n13.t (fun k hk => Nat.le_trans SZ.out (H12.out.foot_lo k hk)) B12.out.size)
  have hF := n13.F
  rw [← hF]
  have ON := Lib.hid (on_any H13.out.fs)
  clear d13 n13 hF CT H12 B12 S12
  go_wp2_with (first
    | (go_at_call 18; refine ON.out.mono ?_; rintro e w14 ⟨rfl, hw14⟩; have H14 := (show DiskIs w14 wk.heap.size L13 _ _ from by rw [hw14]; exact H13.out.setOff false); rw [rC1t] at H14; have H14 := Lib.hid H14; have B14 := Lib.hid (show Below w.heap.size w w14 from by rw [hw14]; exact B13.out.setCell (p := ⟨L13.F, 7, none⟩) (Nat.le_trans SZ.out H13.out.lo.1) _); clear hw14 H13 B13 ON; have RA := Lib.hid (read_no H14.out.fs sA (by decide) (rG3a sa)))
    | (go_at_call 19; go_loud (refine RA.out.mono ?_; rintro e w15 ⟨rfl, b15⟩; have H15 := Lib.hid (H14.out.below b15); have B15 := Lib.hid (B14.out.trans (b15.mono B14.out.size)); clear b15 H14 B14 RA; have RB := Lib.hid (read_yes H15.out.fs sB (by decide) (rG3b sa))))
    | (go_at_call 19; go_loud (refine RB.out.mono ?_; rintro e w16 ⟨vb, rfl, cvb, b16⟩; have B16 := Lib.hid (B15.out.trans (b16.mono B15.out.size)); have cb1 := cvb w16 (Below.refl _ _); have ca1 := CA.out w16 B16.out; have q0 : (sa.toList == sa.toList) = true := beq_self_eq_true _; clear cvb; clear b16 H15 B15 RB)))
  go_ret
  exact ⟨rfl, B16.out⟩
set_option maxRecDepth 100000 in
set_option maxHeartbeats 8000000 in
theorem filesRename_ff (w : World) (A0 : Option Addr) (l0 : List UInt8) (c0 : Nat) (A1 : Option Addr) (l1 : List UInt8) (c1 : Nat) (r0 : BytesAt w A0 l0) (n0 : A0 = none → l0 = []) (r1 : BytesAt w A1 l1) (n1 : A1 = none → l1 = []) :
    Calls Tryd.prog 5 #[.slice A0 l0.length c0, .slice A1 l1.length c1, .bool false, .bool false] w fun e w' => e = .returned (.bool true) ∧ Below w.heap.size w w' := by
  have KN := Lib.hid (known5_any w)
  have CA := Lib.hid (fun W' hb => conv_bytes w W' A0 l0 c0 r0 n0 hb)
  have CB := Lib.hid (fun W' hb => conv_bytes w W' A1 l1 c1 r1 n1 hb)
  obtain ⟨sa, hsa⟩ : ∃ s : ByteArray, s = ⟨l0.toArray⟩ := ⟨_, rfl⟩
  obtain ⟨sb, hsb⟩ : ∃ s : ByteArray, s = ⟨l1.toArray⟩ := ⟨_, rfl⟩
  have ea : sa.size = l0.length := by rw [hsa]; simp [ByteArray.size]
  have eb : sb.size = l1.length := by rw [hsb]; simp [ByteArray.size]
  rw [← hsa] at CA
  rw [← hsb] at CB
  have EA := Lib.hid ea
  have EB := Lib.hid eb
  clear r0 n0 r1 n1 hsa hsb ea eb
  go_enter Tryd.func5, Tryd.ntmps5
  go_wp2_with fail
  refine KN.out.mono ?_
  rintro e wk ⟨rfl, bk⟩
  have BK := Lib.hid bk
  have NW := Lib.hid (new_disk wk 0)
  clear KN bk
  by_cases h0 : 300 < l0.length
  · have d0 : decide ((300 : Int) < (l0.length : Int)) = true := decide_eq_true (by omega)
    go_wp2
    go_ret
    exact ⟨rfl, BK.out⟩
  have d0 : decide ((300 : Int) < (l0.length : Int)) = false := decide_eq_false (by omega)
  by_cases h1 : 300 < l1.length
  · have d1 : decide ((300 : Int) < (l1.length : Int)) = true := decide_eq_true (by omega)
    go_wp2
    go_ret
    exact ⟨rfl, BK.out⟩
  have d1 : decide ((300 : Int) < (l1.length : Int)) = false := decide_eq_false (by omega)
  have HL := Lib.hid (And.intro h0 h1)
  have SZ := Lib.hid BK.out.size
  clear h0 h1
  go_wp2_with fail
  refine NW.out.mono ?_
  rintro e w1 ⟨L1, rfl, dd, b1⟩
  have H1 := Lib.hid dd
  have B1 := Lib.hid (BK.out.trans (b1.mono BK.out.size))
  have S1 := Lib.hid b1.size
  clear dd b1 BK NW d0 d1
  have WR := write_w H1.out rfl rfl sA 2 (.slice A0 l0.length c0) sa ⟨⟨A0, c0, by rw [EA.out]⟩, fun w' ht => CA.out w' (below_turns B1.out ht (fun k hk => Nat.le_trans SZ.out (H1.out.foot_lo k hk)) B1.out.size)⟩ (by have := EA.out; have := HL.out; omega) (.inr rfl) (by decide) rfl (by decide) (by decide) (by decide) (by decide) S1.out (by decide) (by decide) (by decide) (by decide)
  rw [rD1_eq, show stepE (D0 0) = 0 from rfl] at WR
  have WR := Lib.hid WR
  go_wp2_with fail
  refine WR.out.mono ?_
  rintro e w2 ⟨L2, rfl, d2, n2⟩
  have H2 := Lib.hid d2
  have B2 := Lib.hid (below_turns B1.out n2.t (fun k hk => Nat.le_trans SZ.out (H1.out.foot_lo k hk)) B1.out.size)
  have S2 := Lib.hid (Nat.le_trans S1.out n2.t.size)
  have hF := n2.F
  rw [← hF]
  clear d2 n2 WR hF H1 B1 S1
  have SY := Lib.hid (sync_on H2.out rfl S2.out)
  go_wp2_with fail
  refine SY.out.mono ?_
  rintro e w4 ⟨L4, rfl, d4, n4⟩
  have H4 := Lib.hid d4
  have B4 := Lib.hid (below_turns B2.out n4.t (fun k hk => Nat.le_trans SZ.out (H2.out.foot_lo k hk)) B2.out.size)
  have S4 := Lib.hid (Nat.le_trans S2.out n4.t.size)
  have hF := n4.F
  rw [← hF]
  clear d4 n4 SY hF H2 B2 S2
  have TK := Lib.hid (tick_any H4.out.fs (by show (0 : Int) ≤ 0; omega) (by show (0 : Int) ≤ _; omega))
  have q12 : (sa.size : Int) = (sa.size : Int) := rfl
  go_wp2_with (first
    | (go_at_call 21; refine TK.out.mono ?_; rintro e w5 ⟨rfl, hw5⟩; have H5 := Lib.hid (show DiskIs w5 wk.heap.size L4 _ (rS (rT1 sa) 1) from by rw [hw5]; exact H4.out.setNow 1); have B5 := Lib.hid (show Below w.heap.size w w5 from by rw [hw5]; exact B4.out.setCell (p := ⟨L4.F, 4, none⟩) (Nat.le_trans SZ.out H4.out.lo.1) _); have S5 := Lib.hid (show wk.heap.size ≤ w5.heap.size by rw [hw5]; simp; exact S4.out); clear hw5 H4 B4 TK S4; have ST := Lib.hid (show Calls Tryd.prog 22 #[.pointer (some ⟨L4.F, 0, none⟩), .string sA] w5 fun e w' => e = .returned (.tuple #[.agg #[.int .i64 (sa.size : Int), .int .i64 0, .int .i64 1, .int .i64 2], .int .i64 0]) ∧ Below w5.heap.size w5 w' from stat_yes H5.out.fs sA (by decide) (rG1a sa)))
    | (go_at_call 22; refine ST.out.mono ?_; rintro e w6 ⟨rfl, b6⟩; have H6 := Lib.hid (H5.out.below b6); have B6 := Lib.hid (B5.out.trans (b6.mono B5.out.size)); have S6 := Lib.hid (Nat.le_trans S5.out b6.size); clear b6 H5 B5 ST S5))
  have K6 := Lib.hid (Blk.new w6 51 #[.int .i64 (sa.size : Int), .int .i64 0, .int .i64 1, .int .i64 2])
  have H7 := Lib.hid (H6.out.alloc (.cells #[.int .i64 (sa.size : Int), .int .i64 0, .int .i64 1, .int .i64 2] 51))
  have B7 := Lib.hid (B6.out.alloc B6.out.size (.cells #[.int .i64 (sa.size : Int), .int .i64 0, .int .i64 1, .int .i64 2] 51))
  have S7 := Lib.hid (show wk.heap.size ≤ (w6.alloc (.cells #[.int .i64 (sa.size : Int), .int .i64 0, .int .i64 1, .int .i64 2] 51)).heap.size by have := S6.out; simp; omega)
  have RN := rename_any H7.out sA sB (by decide) (by decide) (by show (0 : Int) ≤ 0 ∧ (0 : Int) ≤ _; omega) (Nat.le_of_ble_eq_true rfl) (by show 0 ≤ 100000; omega) S7.out (by show (0 : Int) ≤ 1; omega) (by show (1 : Int) ≤ _; omega) (by show (0 : Int) ≤ 1; omega) (by show (1 : Int) ≤ _; omega)
  rw [rR1_e, rR1_eq] at RN
  have RN := Lib.hid RN
  have NX := Lib.hid (show ¬ L4.foot w6.heap.size from fun hf => by have := H6.out.foot_lt _ hf; omega)
  clear H6 B6 S6
  obtain ⟨X, hX⟩ : ∃ X, X = w6.heap.size := ⟨_, rfl⟩
  rw [← hX] at K6 NX ⊢
  clear hX
  go_wp2_with fail
  refine RN.out.mono ?_
  rintro e w8 ⟨L8, rfl, d8, n8⟩
  have H8 := Lib.hid d8
  have B8 := Lib.hid (below_turns B7.out n8.t (fun k hk => Nat.le_trans SZ.out (H7.out.foot_lo k hk)) B7.out.size)
  have S8 := Lib.hid (Nat.le_trans S7.out n8.t.size)
  have K8 := Lib.hid (show Blk w8 X 51 _ from (n8.t.block X K6.out.lt NX.out).trans K6.out)
  have hF := n8.F
  rw [← hF]
  clear d8 n8 RN hF H7 B7 S7 K6 NX
  have PD := Lib.hid (show Calls Tryd.prog 24 #[.pointer (some ⟨L8.F, 0, none⟩)] w8 fun e w' => e = .returned (.int .i64 1) ∧ w8 = w' from pending_any H8.out.fs H8.out.ps)
  have ST := Lib.hid (show Calls Tryd.prog 22 #[.pointer (some ⟨L8.F, 0, none⟩), .string sB] w8 fun e w' => e = .returned (.tuple #[.agg #[.int .i64 (sa.size : Int), .int .i64 0, .int .i64 1, .int .i64 2], .int .i64 0]) ∧ Below w8.heap.size w8 w' from stat_yes H8.out.fs sB (by decide) (rG3b sa))
  go_wp2_with (first
    | (go_at_call 24; refine PD.out.mono ?_; rintro e w' ⟨rfl, rfl⟩)
    | (go_at_call 22; refine ST.out.mono ?_; rintro e w9 ⟨rfl, b9⟩; have H9 := Lib.hid (H8.out.below b9); have B9 := Lib.hid (B8.out.trans (b9.mono B8.out.size)); have S9 := Lib.hid (Nat.le_trans S8.out b9.size); have K9 := Lib.hid (K8.out.below b9 K8.out.lt); clear b9 H8 B8 ST S8 K8 PD))
  have M9 := Lib.hid (Blk.new w9 51 #[.int .i64 (sa.size : Int), .int .i64 0, .int .i64 1, .int .i64 2])
  have H10 := Lib.hid (H9.out.alloc (.cells #[.int .i64 (sa.size : Int), .int .i64 0, .int .i64 1, .int .i64 2] 51))
  have B10 := Lib.hid (B9.out.alloc B9.out.size (.cells #[.int .i64 (sa.size : Int), .int .i64 0, .int .i64 1, .int .i64 2] 51))
  have S10 := Lib.hid (show wk.heap.size ≤ (w9.alloc (.cells #[.int .i64 (sa.size : Int), .int .i64 0, .int .i64 1, .int .i64 2] 51)).heap.size by have := S9.out; simp; omega)
  have K10 := Lib.hid (K9.out.alloc (.cells #[.int .i64 (sa.size : Int), .int .i64 0, .int .i64 1, .int .i64 2] 51))
  have SN := Lib.hid (show Calls Tryd.prog 22 #[.pointer (some ⟨L8.F, 0, none⟩), .string sA] (w9.alloc (.cells #[.int .i64 (sa.size : Int), .int .i64 0, .int .i64 1, .int .i64 2] 51)) fun e w' => e = .returned (.tuple #[.agg #[.int .i64 0, .int .i64 0, .int .i64 0, .int .i64 0], .int .i64 5]) ∧ Below _ (w9.alloc (.cells #[.int .i64 (sa.size : Int), .int .i64 0, .int .i64 1, .int .i64 2] 51)) w' from stat_no H10.out.fs sA (by decide) (rG3a sa))
  clear H9 B9 S9 K9
  obtain ⟨Y, hY⟩ : ∃ Y, Y = w9.heap.size := ⟨_, rfl⟩
  rw [← hY] at M9 ⊢
  clear hY
  go_wp2_with fail
  refine SN.out.mono ?_
  rintro e w11 ⟨rfl, b11⟩
  have b11a := (Below.refl w11.heap.size w11).alloc (Nat.le_refl _) (.cells #[.int .i64 0, .int .i64 0, .int .i64 0, .int .i64 0] 51)
  have H11 := Lib.hid ((H10.out.below b11).alloc (.cells #[.int .i64 0, .int .i64 0, .int .i64 0, .int .i64 0] 51))
  have B11 := Lib.hid ((B10.out.trans (b11.mono B10.out.size)).alloc (B10.out.trans (b11.mono B10.out.size)).size (.cells #[.int .i64 0, .int .i64 0, .int .i64 0, .int .i64 0] 51))
  have S11 := Lib.hid (show wk.heap.size ≤ (w11.alloc (.cells #[.int .i64 0, .int .i64 0, .int .i64 0, .int .i64 0] 51)).heap.size by have := S10.out; have := b11.size; simp at *; omega)
  have K11 := Lib.hid ((K10.out.below b11 K10.out.lt).alloc (.cells #[.int .i64 0, .int .i64 0, .int .i64 0, .int .i64 0] 51))
  have M11 := Lib.hid ((M9.out.below b11 M9.out.lt).alloc (.cells #[.int .i64 0, .int .i64 0, .int .i64 0, .int .i64 0] 51))
  have k0 := K11.out.cell 0
  have k1 := K11.out.cell 1
  have k2 := K11.out.cell 2
  have k3 := K11.out.cell 3
  have m0 := M11.out.cell 0
  have m1 := M11.out.cell 1
  have m2 := M11.out.cell 2
  have m3 := M11.out.cell 3
  clear b11 b11a H10 B10 S10 K10 M9 SN
  obtain ⟨W, hW⟩ : ∃ W, W = w11.alloc (.cells #[.int .i64 0, .int .i64 0, .int .i64 0, .int .i64 0] 51) := ⟨_, rfl⟩
  rw [← hW] at H11 B11 S11 K11 M11 k0 k1 k2 k3 m0 m1 m2 m3
  go_upto_region 16 with fail
  rw [← hW]
  clear hW
  go_wp2_with fail
  have H12 := Lib.hid (H11.out.alloc (.cells #[.bool false] 4))
  have B12 := Lib.hid (B11.out.alloc B11.out.size (.cells #[.bool false] 4))
  have S12 := Lib.hid (show wk.heap.size ≤ (W.alloc (.cells #[.bool false] 4)).heap.size by have := S11.out; simp; omega)
  have RK : ∀ w', (W.alloc (.cells #[.bool false] 4)).grownBy w' (some L8.bs) → Reads 1 cB w' (.slice (some ⟨W.heap.size, 0, none⟩) 1 1) [false] := fun w' hg => reads_one ((hg.block _ (by simp) (fun e => by have := H11.out.fs.s.lt; have := Option.some.inj e; omega)).trans (heap_alloc_new ..))
  have CT := Lib.hid (cut_any H12.out (.slice (some ⟨W.heap.size, 0, none⟩) 1 1) [false] RK (Nat.le_of_ble_eq_true rfl) (Nat.le_of_ble_eq_true rfl) S12.out)
  clear RK k0 k1 k2 k3 m0 m1 m2 m3 K11 M11 H11 B11 S11
  refine CT.out.mono ?_
  rintro e w13 ⟨L13, rfl, d13, n13⟩
  have H13 := Lib.hid d13
  have B13 := Lib.hid (below_turns B12.out n13.t (fun k hk => Nat.le_trans SZ.out (H12.out.foot_lo k hk)) B12.out.size)
  have hF := n13.F
  rw [← hF]
  have ON := Lib.hid (on_any H13.out.fs)
  clear d13 n13 hF CT H12 B12 S12
  go_wp2_with (first
    | (go_at_call 18; refine ON.out.mono ?_; rintro e w14 ⟨rfl, hw14⟩; have H14 := (show DiskIs w14 wk.heap.size L13 _ _ from by rw [hw14]; exact H13.out.setOff false); rw [rC1f] at H14; have H14 := Lib.hid H14; have B14 := Lib.hid (show Below w.heap.size w w14 from by rw [hw14]; exact B13.out.setCell (p := ⟨L13.F, 7, none⟩) (Nat.le_trans SZ.out H13.out.lo.1) _); clear hw14 H13 B13 ON; have RA := Lib.hid (read_yes H14.out.fs sA (by decide) (rG1a sa)))
    | (go_at_call 19; go_loud (refine RA.out.mono ?_; rintro e w15 ⟨va, rfl, cva, b15⟩; have H15 := Lib.hid (H14.out.below b15); have B15 := Lib.hid (B14.out.trans (b15.mono B14.out.size)); have CVA := Lib.hid cva; clear cva; clear b15 H14 B14 RA; have RB := Lib.hid (read_no H15.out.fs sB (by decide) (rG1b sa))))
    | (go_at_call 19; go_loud (refine RB.out.mono ?_; rintro e w16 ⟨rfl, b16⟩; have B16 := Lib.hid (B15.out.trans (b16.mono B15.out.size)); have cv1 := CVA.out w16 b16; have ca1 := CA.out w16 B16.out; have q0 : (sa.toList == sa.toList) = true := beq_self_eq_true _; clear CVA; clear b16 H15 B15 RB)))
  go_ret
  exact ⟨rfl, B16.out⟩
theorem filesRename_law (w : World) (A0 A1 : Option Addr) (l0 : List UInt8) (c0 : Nat) (l1 : List UInt8) (c1 : Nat) (x y : Bool) (r0 : BytesAt w A0 l0) (n0 : A0 = none → l0 = []) (r1 : BytesAt w A1 l1) (n1 : A1 = none → l1 = []) :
    Calls Tryd.prog 5 #[.slice A0 l0.length c0, .slice A1 l1.length c1, .bool x, .bool y] w fun e w' => e = .returned (.bool true) ∧ Below w.heap.size w w' := by
  cases x <;> cases y
  · exact filesRename_ff w A0 l0 c0 A1 l1 c1 r0 n0 r1 n1
  · exact filesRename_ft w A0 l0 c0 A1 l1 c1 r0 n0 r1 n1
  · exact filesRename_tf w A0 l0 c0 A1 l1 c1 r0 n0 r1 n1
  · exact filesRename_tt w A0 l0 c0 A1 l1 c1 r0 n0 r1 n1
end Go.Proofs.YtcnmlgmlijgmhaaDoor
