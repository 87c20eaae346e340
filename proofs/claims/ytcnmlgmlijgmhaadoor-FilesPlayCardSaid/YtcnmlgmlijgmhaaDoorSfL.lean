/-
  stat.Changed of one entry whose file is there, not fresh, of the entry's mode and of the same bytes.
-/
import Derived.Test.YtcnmlgmlijgmhaaDoorSfI
namespace Go.Proofs.YtcnmlgmlijgmhaaDoor
open Go Go.RowKit Go.Maps

set_option maxRecDepth 100000 in
set_option maxHeartbeats 4000000 in
theorem changed_same {w : World} {F bf bs n : Nat} {T S : Tr} {vp : Value} {q now ino ops : Int} {armed : Int} {vk : Value} (h : FsIs w F bf bs n T S vp q now ino ops false armed vk) (g c : Nat) (p data : ByteArray) (mode time size written : Int)
    (hg : Blk w g 60 #[.string p, .int .i64 0, .int .i64 mode, .string data, .int .i64 time, .int .i64 size]) (hp : p.size ≤ 1000) {ft fi : Int} {fd : ByteArray} (hf : getT T p = some ⟨mode, ft, fi, fd⟩)
    (hfr : freshB 0 mode time size (fd.size : Int) ft mode written = false) (hne : (fd.toList == data.toList) = true) :
    Calls Tryd.prog 34 #[.pointer (some ⟨F, 0, none⟩), .slice (some ⟨g, 0, none⟩) 1 c, .int .i64 written] w fun e w' => ∃ A m cc, e = .returned (.tuple #[.slice A m cc, .int .i64 1, .int .i64 0]) ∧ m = 0 ∧ Below w.heap.size w w' := by
  have OF := Lib.hid (off_any h)
  have HFS := Lib.hid h
  have HG := Lib.hid hg
  have HF := Lib.hid hf
  have HP := Lib.hid hp
  have d1 := (Below.refl w.heap.size w).alloc (Nat.le_refl _) (.cells #[.string p, .int .i64 0, .int .i64 mode, .string data, .int .i64 time, .int .i64 size] 60)
  have D1 := Lib.hid d1
  have ST := Lib.hid (stat_yes (h.below d1) p hp hf)
  have HE := Lib.hid (Blk.new w 60 #[.string p, .int .i64 0, .int .i64 mode, .string data, .int .i64 time, .int .i64 size])
  have fr := fun W => fresh29_any W p data 0 mode time size (fd.size : Int) ft fi mode written
  simp only [enV, stV, hfr] at fr
  have FR := Lib.hid fr
  have c0 := hg.cell 0
  have c1 := hg.cell 1
  have c2 := hg.cell 2
  have c3 := hg.cell 3
  have c4 := hg.cell 4
  have c5 := hg.cell 5
  have hlt := hg.lt
  clear h hg hf hfr d1 hp fr
  go_enter Tryd.func34, Tryd.ntmps34
  go_wp2_with fail
  refine OF.out.mono ?_
  rintro e w' ⟨rfl, rfl⟩
  clear OF
  go_wp2_with fail
  refine wp_loop_rounds 2 ?_
  rw [rounds_succ]
  go_wp2_with fail
  refine ST.out.mono ?_
  rintro e w2 ⟨rfl, b2⟩
  have B2 := Lib.hid (D1.out.trans (b2.mono D1.out.size))
  have E2 := Lib.hid (HE.out.below b2 HE.out.lt)
  have k0 := E2.out.cell 0
  have k1 := E2.out.cell 1
  have k2 := E2.out.cell 2
  have k3 := E2.out.cell 3
  have k4 := E2.out.cell 4
  have k5 := E2.out.cell 5
  have hle := E2.out.lt
  clear ST b2 c0 c1 c2 c3 c4 c5 D1 HE
  unfold stV
  have FS2 := Lib.hid (HFS.out.below B2.out)
  clear hlt
  go_wp2_with (first
    | (go_at_call 29
       refine (FR.out _).mono ?_
       rintro e w3 ⟨rfl, b3⟩
       have b3' := ((Below.refl w2.heap.size w2).alloc (Nat.le_refl _) (.cells #[.int .i64 (fd.size : Int), .int .i64 ft, .int .i64 fi, .int .i64 mode] 51))
       have b3s := b3'.trans (b3.mono b3'.size)
       have B3 := Lib.hid (B2.out.trans (b3s.mono B2.out.size))
       have E3 := Lib.hid (E2.out.below b3s E2.out.lt)
       have S3 := Lib.hid ((Blk.new w2 51 #[.int .i64 (fd.size : Int), .int .i64 ft, .int .i64 fi, .int .i64 mode]).below b3 (by simp))
       have RD := Lib.hid (read_yes (FS2.out.below b3s) p HP.out HF.out)
       clear k0 k1 k2 k3 k4 k5 hle b3 b3' b3s E2 FR
       have k0 := E3.out.cell 0
       have k2 := E3.out.cell 2
       have m3 := S3.out.cell 3)
    | (go_at_call 19
       refine RD.out.mono ?_
       rintro e w4 ⟨v, rfl, hv, b4⟩
       have B4 := Lib.hid (B3.out.trans (b4.mono B3.out.size))
       have E4 := Lib.hid (E3.out.below b4 E3.out.lt)
       have cv := hv w4 (Below.refl _ _)
       clear k0 k2 m3 E3 hv b4 B3 RD S3
       have k0 := E4.out.cell 0
       have k3 := E4.out.cell 3
       have hl4 := E4.out.lt))
  have hq : ([] : List ByteArray).length ≤ 1000000 := by simp
  have SO := Lib.hid (fun W => sort_own W w.heap.size (.slice none 0 0) [] ⟨by simp, .inl ⟨rfl, rfl⟩⟩ hq)
  have CO := Lib.hid (fun W V (h : W.ownsRow w.heap.size 9 1 V ([] : List ByteArray).length ((srt (([] : List ByteArray).map bsOf)).map encStr)) => compact_own W w.heap.size V 0 [] h hq)
  have B5 := B4
  clear hq hne HF FS2 B2 B4 k0 k3 hl4 E4 cv
  rw [rounds_succ]
  go_wp2_with (first
    | (go_at_call 65
       refine (SO.out _).mono ?_
       rintro e w6 ⟨rfl, own6, b6⟩
       have B6 := Lib.hid (B5.out.trans b6)
       clear B5 SO b6)
    | (go_at_call 66
       refine (CO.out w6 _ own6).mono ?_
       rintro e w7 ⟨u, rfl, own7, b7⟩
       obtain ⟨A7, c7, rfl⟩ := own_form own7
       have L7 := Lib.hid (show (nrm []).length = 0 by have := nrm_len []; simpa using this)
       have B7 := Lib.hid (B6.out.trans b7)
       clear own7 b7 B6 own6))
  go_ret3
  exact ⟨_, _, _, rfl, L7.out, B7.out⟩
end Go.Proofs.YtcnmlgmlijgmhaaDoor
