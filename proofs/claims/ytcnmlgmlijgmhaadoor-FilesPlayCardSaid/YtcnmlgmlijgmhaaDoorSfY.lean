/-
  The known case of stage 5.
-/
import Derived.Test.YtcnmlgmlijgmhaaDoorSfX
namespace Go.Proofs.YtcnmlgmlijgmhaaDoor
open Go Go.RowKit Go.Maps

abbrev sA : ByteArray := ⟨#[97]⟩
abbrev sB : ByteArray := ⟨#[98]⟩
abbrev sXY : ByteArray := ⟨#[120, 121]⟩
def kT1 : Tr := [(sA, ⟨1, 0, 1, sXY⟩)]
def kT2 : Tr := [(sA, ⟨1, 0, 1, sXY⟩), (sB, ⟨2, 0, 2, ⟨#[]⟩⟩)]
def kO1 : Ov := (0, ⟨#[]⟩, sA, 1, 0, 1, sXY)
def kO2 : Ov := (0, ⟨#[]⟩, sB, 2, 0, 2, ⟨#[]⟩)
def kD1 : DK := ⟨kT1, [], [kO1], 0, 0, 1, 1, false, 0, []⟩
def kD2 : DK := ⟨kT2, [], [kO1, kO2], 0, 0, 2, 2, false, 0, []⟩
def kD2' : DK := ⟨kT2, [], [kO1, kO2], 0, 1, 2, 2, false, 0, []⟩
def kD3 : DK := ⟨kT1, kT1, [], 0, 1, 2, 2, true, 0, []⟩
theorem kD1_eq : stepD (D0 0) (0, ⟨#[]⟩, sA, 1, (D0 0).now, inoOf (D0 0).T sA (D0 0).ino, sXY) (inoNew (D0 0).T sA (D0 0).ino) = kD1 := by first | rfl | kernel_rfl
theorem kD2_eq : stepD kD1 (0, ⟨#[]⟩, sB, 2, kD1.now, inoOf kD1.T sB kD1.ino, ⟨#[]⟩) (inoNew kD1.T sB kD1.ino) = kD2 := by first | rfl | kernel_rfl
theorem kD3_eq : cutD kD2' [true] = kD3 := by first | rfl | kernel_rfl
theorem kNo : kD1.T.any (badX ⟨#[]⟩ sB) = false := by first | rfl | kernel_rfl
theorem kNm : namesV kT1 = [sA] := by first | rfl | kernel_rfl
theorem kU : usedV kT1 = 2 := by first | rfl | kernel_rfl
theorem kG1 : getT kT1 sA = some ⟨1, 0, 1, sXY⟩ := by first | rfl | kernel_rfl
theorem kG2 : getT kT1 sB = none := by first | rfl | kernel_rfl
set_option maxRecDepth 100000 in
set_option maxHeartbeats 8000000 in
theorem known5_any (w : World) : Calls Tryd.prog 10 #[] w fun e w' => e = .returned (.bool true) ∧ Below w.heap.size w w' := by
  have NW := Lib.hid (new_disk w 0)
  have CV := Lib.hid (fun W => Lib.run_convert_bytes_const (P := Tryd.prog) W 32 5 #[.int .u8 120, .int .u8 121] 2 2 Tryd.underlying32 Tryd.underlying5)
  go_enter Tryd.func10, Tryd.ntmps10
  go_wp2_with fail
  refine NW.out.mono ?_
  rintro e w1 ⟨L, rfl, d1, b1⟩
  have H1 := Lib.hid d1
  have B1 := Lib.hid b1
  clear NW d1 b1
  have cv := CV.out
  have y4 : (w1.alloc (.cells #[.int .u8 120, .int .u8 121] 5 (2, 3))).heap[w1.heap.size]? = some (.cells #[.int .u8 120, .int .u8 121] 5 (2, 3)) := heap_alloc_new ..
  have WR := Lib.hid (write_w (H1.out.alloc (.cells #[.int .u8 120, .int .u8 121] 5 (2, 3))) rfl rfl sA 1 (.slice (some ⟨w1.heap.size, 0, none⟩) 2 2) sXY
    (bytesIn_blk (l := [120, 121]) (cap := 2) y4 (fun j hj => by match j, hj with | 0, _ => rfl | 1, _ => rfl) (fun hf => by have := H1.out.foot_lt _ hf; omega)) (by decide) (.inl rfl) (by decide) rfl (by decide) (by decide) (by decide) (by decide) (Nat.le_trans B1.out.size (by simp)) (by decide) (by decide) (by decide) (by decide))
  rw [kD1_eq, show stepE (D0 0) = 0 from rfl] at WR
  have B1a := Lib.hid (B1.out.alloc B1.out.size (.cells #[.int .u8 120, .int .u8 121] 5 (2, 3)))
  have H1a := Lib.hid (H1.out.alloc (.cells #[.int .u8 120, .int .u8 121] 5 (2, 3)))
  clear y4
  go_wp2_with fail
  refine WR.out.mono ?_
  rintro e w2 ⟨L2, rfl, d2, n2⟩
  have B2 := Lib.hid (B1a.out.trans (n2.below H1a.out B1a.out.size))
  have H2 := Lib.hid d2
  have hF2 := n2.F
  rw [← hF2]
  clear WR d2 n2 hF2 B1a H1a H1 B1 cv CV
  have WR := Lib.hid (write_w H2.out rfl rfl sB 2 (.slice none 0 0) ⟨#[]⟩ (bytesIn_none _ _) (by decide) (.inr rfl) (by decide) kNo (by decide) (by decide) (by decide) (by decide) B2.out.size (by decide) (by decide) (by decide) (by decide))
  rw [kD2_eq, show stepE kD1 = 0 from rfl] at WR
  go_wp2_with fail
  refine WR.out.mono ?_
  rintro e w3 ⟨L3, rfl, d3, n3⟩
  have B3 := Lib.hid (B2.out.trans (n3.below H2.out B2.out.size))
  have H3 := Lib.hid d3
  have hF3 := n3.F
  rw [← hF3]
  clear WR d3 n3 hF3 H2 B2
  have TK := Lib.hid (tick_any H3.out.fs (by decide) (by decide))
  go_wp2_with (go_at_call 21; refine TK.out.mono ?_; rintro e w4 ⟨rfl, hw4⟩; have H4 := Lib.hid (show DiskIs w4 w.heap.size L3 _ kD2' from by rw [hw4]; exact H3.out.setNow 1); have B4 := Lib.hid (show Below w.heap.size w w4 from by rw [hw4]; exact B3.out.setCell (p := ⟨L3.F, 4, none⟩) H3.out.lo.1 _); clear hw4 H3 B3 TK; have PD := Lib.hid (show Calls Tryd.prog 24 #[.pointer (some ⟨L3.F, 0, none⟩)] w4 fun e w' => e = .returned (.int .i64 2) ∧ w4 = w' from pending_any H4.out.fs H4.out.ps))
  have HR : Hid (∀ w', (w4.alloc (.cells #[.bool true] 4)).grownBy w' (some L3.bs) → Reads 1 cB w' (.slice (some ⟨w4.heap.size, 0, none⟩) 1 1) [true]) := Lib.hid fun w' hg => by
    have z : w'.heap[w4.heap.size]? = some (.cells #[.bool true] 4 (0, 0)) := (hg.block _ (by simp) (fun e => by have := H4.out.fs.s.lt; have := Option.some.inj e; omega)).trans (heap_alloc_new ..)
    refine ⟨some ⟨w4.heap.size, 0, none⟩, 1, rfl, Nat.le_refl _, by decide, by simp, fun ad hA i x hx j u hu => ?_⟩
    obtain rfl := Option.some.inj hA
    have hi : i = 0 := by
      have := (List.getElem?_eq_some_iff.1 hx).1
      simp at this
      exact this
    subst hi
    obtain rfl : true = x := by simpa using hx
    have hj : j = 0 := by
      have := (List.getElem?_eq_some_iff.1 hu).1
      simp [cB] at this
      exact this
    subst hj
    obtain rfl : Value.bool true = u := by simpa [cB] using hu
    unfold adr
    rw [add_zero_addr]
    exact cell_of_row w' _ _ _ _ _ z
  have H4a := Lib.hid (H4.out.alloc (.cells #[.bool true] 4))
  have B4a := Lib.hid (B4.out.alloc B4.out.size (.cells #[.bool true] 4))
  have CT := Lib.hid (cut_any H4a.out (.slice (some ⟨w4.heap.size, 0, none⟩) 1 1) [true] HR.out (by decide) (by decide) B4a.out.size)
  rw [kD3_eq] at CT
  go_wp2_with (first
    | (go_at_call 24; refine PD.out.mono ?_; rintro e w' ⟨rfl, rfl⟩)
    | (go_at_call 13; refine CT.out.mono ?_; rintro e w5 ⟨L5, rfl, d5, n5⟩; have B5 := Lib.hid (B4a.out.trans (n5.below H4a.out B4a.out.size)); have H5 := Lib.hid d5; have hF5 : L5.F = L3.F := n5.F; rw [← hF5]; clear d5 n5 hF5 H4a B4a CT HR PD H4 B4; have RD := Lib.hid (show Calls Tryd.prog 19 #[.pointer (some ⟨L5.F, 0, none⟩), .string sA] w5 _ from read_off H5.out.fs sA); have ON := Lib.hid (on_any H5.out.fs))
    | (go_at_call 19; refine RD.out.mono ?_; rintro e w' ⟨rfl, rfl⟩)
    | (go_at_call 18; refine ON.out.mono ?_; rintro e w6 ⟨rfl, hw6⟩; have H6 := Lib.hid (show DiskIs w6 w.heap.size L5 _ { kD3 with off := false } from by rw [hw6]; exact H5.out.setOff false); have B6 := Lib.hid (show Below w.heap.size w w6 from by rw [hw6]; exact B5.out.setCell (p := ⟨L5.F, 7, none⟩) H5.out.lo.1 _); clear hw6 H5 B5 ON RD; have R1 := Lib.hid (read_yes H6.out.fs sA (by decide) kG1))
    | (go_at_call 19; refine R1.out.mono ?_; rintro e w7 ⟨v1, rfl, cv1, b7⟩; have CV1 := Lib.hid cv1; have H7 := Lib.hid (H6.out.below b7); have B7 := Lib.hid (B6.out.trans (b7.mono B6.out.size)); clear R1 cv1 b7 H6 B6; have R2 := Lib.hid (read_no H7.out.fs sB (by decide) kG2))
    | (go_at_call 19; refine R2.out.mono ?_; rintro e w8 ⟨rfl, b8⟩; have H8 := Lib.hid (H7.out.below b8); have B8 := Lib.hid (B7.out.trans (b8.mono B7.out.size)); have C8 := Lib.hid b8; clear R2 b8 H7 B7; have ST := Lib.hid (stat_yes H8.out.fs sA (by decide) kG1); go_loud (skip)))
  go_wp2_with fail
  refine ST.out.mono ?_
  rintro e w9 ⟨rfl, b9⟩
  unfold stV
  have H9 := Lib.hid (H8.out.below b9)
  have B9 := Lib.hid (B8.out.trans (b9.mono B8.out.size))
  have C9 := Lib.hid (C8.out.trans (b9.mono C8.out.size))
  clear ST b9 H8 B8 C8
  have K9 := Lib.hid (Blk.new w9 51 #[.int .i64 2, .int .i64 0, .int .i64 1, .int .i64 1])
  have H9a := Lib.hid (H9.out.alloc (.cells #[.int .i64 2, .int .i64 0, .int .i64 1, .int .i64 1] 51))
  have B9a := Lib.hid (B9.out.alloc B9.out.size (.cells #[.int .i64 2, .int .i64 0, .int .i64 1, .int .i64 1] 51))
  have C9a := Lib.hid (C9.out.alloc C9.out.size (.cells #[.int .i64 2, .int .i64 0, .int .i64 1, .int .i64 1] 51))
  have LS := list_on H9a.out.fs (by decide)
  rw [show ({ kD3 with off := false } : DK).T = kT1 from rfl, kNm] at LS
  have LS := Lib.hid LS
  go_wp2_with (go_at_call 20; refine LS.out.mono ?_; rintro e w10 ⟨v2, rfl, own, b10⟩; obtain ⟨A2, c2, rfl⟩ := own_form own; have H10 := Lib.hid (H9a.out.below b10); have B10 := Lib.hid (B9a.out.trans (b10.mono B9a.out.size)); have K10 := Lib.hid (K9.out.below b10 K9.out.lt); have cv := CV1.out w10 (C9a.out.trans (b10.mono C9a.out.size)); have k0 := K10.out.cell 0; have k1 := K10.out.cell 1; have k2 := K10.out.cell 2; have k3 := K10.out.cell 3; clear own b10 LS H9a B9a C9a K9 C9 H9 B9 CV1; have NO := Lib.hid (show Calls Tryd.prog 33 #[.pointer (some ⟨L5.F, 0, none⟩)] w10 fun e w' => e = .returned (.int .i64 1) ∧ w10 = w' from now_any H10.out.fs); have US := Lib.hid (show Calls Tryd.prog 35 #[.pointer (some ⟨L5.F, 0, none⟩)] w10 fun e w' => e = .returned (.int .i64 2) ∧ Below w10.heap.size w10 w' from used_any H10.out.fs (by decide)))
  go_wp2_with (first
    | (go_at_call 33; refine NO.out.mono ?_; rintro e w' ⟨rfl, rfl⟩)
    | (go_at_call 35; refine US.out.mono ?_; rintro e w11 ⟨rfl, b11⟩; have OP := Lib.hid (show Calls Tryd.prog 27 #[.pointer (some ⟨L5.F, 0, none⟩)] w11 fun e w' => e = .returned (.int .i64 2) ∧ w11 = w' from ops_any (H10.out.below b11).fs); have B11 := Lib.hid (B10.out.trans (b11.mono B10.out.size)); clear b11)
    | (go_at_call 27; refine OP.out.mono ?_; rintro e w' ⟨rfl, rfl⟩))
  go_ret
  exact ⟨rfl, B11.out⟩
end Go.Proofs.YtcnmlgmlijgmhaaDoor
