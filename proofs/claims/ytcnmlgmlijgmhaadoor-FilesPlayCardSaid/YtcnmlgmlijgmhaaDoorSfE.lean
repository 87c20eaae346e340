/-
  simfs: refusesFile, Edit, of a disk without a quota.
-/
import Derived.Test.YtcnmlgmlijgmhaaDoorSfB
import Derived.Test.YtcnmlgmlijgmhaaDoorPCheck
namespace Go.Proofs.YtcnmlgmlijgmhaaDoor
open Go Go.RowKit Go.Maps

theorem grown_below {w w' : World} {r : Option Nat} (hb : Below w.heap.size w w') : w.grownBy w' r := ⟨hb.os, hb.tape, hb.output, hb.size, fun k hk _ => hb.block k hk⟩
theorem below_drewE {B : Nat} {a w : World} (h : Below B a w) (n : Nat) : Below B a (w.drewN n) := ⟨h.os, h.tape, h.output, h.size, h.block⟩
set_option maxRecDepth 100000 in
set_option maxHeartbeats 4000000 in
theorem refusesFile_ok {w : World} {F bf bs n : Nat} {T S : Tr} {vp : Value} {now ino ops : Int} {armed : Int} {vk : Value} (h : FsIs w F bf bs n T S vp 0 now ino ops false armed vk) (p : ByteArray) (mode : Int) (v : Value) (s : ByteArray) (hp : p.size ≤ 1000)
    (hT : ∀ x ∈ T, x.1.size ≤ 1000000) (hv : BytesOf w F v s) (hs : s.size ≤ 65536) (hm : mode = 1 ∨ mode = 2) (hc : chk p.data.toList = 0) (hr : T.any (badX ⟨#[]⟩ p) = false) :
    Calls Tryd.prog 55 #[.pointer (some ⟨F, 0, none⟩), .string p, .int .i64 mode, v] w fun e w' => e = .returned (.int .i64 0) ∧ Below w.heap.size w w' := by
  obtain ⟨A, c, rfl⟩ := hv.form
  have HFS := Lib.hid h
  have x7 := h.x.cell 7
  have CK := Lib.hid (check_any p w (by omega))
  have hs0 : (s.size : Int) ≤ 65536 := by omega
  have HT := Lib.hid hT
  have HC := Lib.hid hc
  have HR := Lib.hid hr
  clear h hv hT hc hr
  have hm1 : (mode != 1) = true ∧ (mode != 2) = false ∨ (mode != 1) = false := by
    rcases hm with rfl | rfl
    · exact .inr rfl
    · exact .inl ⟨rfl, rfl⟩
  clear hm
  go_enter Tryd.func55, Tryd.ntmps55
  go_wp2_with fail
  refine CK.out.mono ?_
  rintro e w1 ⟨rfl, b1⟩
  rw [HC.out]
  have FS1 := Lib.hid (HFS.out.below b1)
  have x0 := FS1.out.x.cell 0
  have RW := Lib.hid (refuses_write w1 bf n T ⟨#[]⟩ p noF FS1.out.f HT.out (by omega))
  have B1 := Lib.hid b1
  clear b1 CK x7
  rcases hm1 with ⟨m1, m2⟩ | m1
  all_goals
    go_wp2_with fail
    refine RW.out.mono ?_
    rintro e w2 ⟨rfl, b2⟩
    rw [refV_no HR.out]
    have FS2 := Lib.hid (FS1.out.below b2)
    have B2 := Lib.hid (B1.out.trans (b2.mono B1.out.size))
    have y0 := FS2.out.x.cell 0
    have y3 := FS2.out.x.cell 3
    have lk := FS2.out.f.look (p := p) (by unfold maxLen; omega)
    obtain ⟨f0, hf0⟩ : ∃ f, f = (getT T p).getD noF := ⟨_, rfl⟩
    rw [← hf0] at lk
    unfold fV at lk
    have fi := fun W => field_data f0.mode f0.time f0.inode f0.data W
    clear hf0 b2 RW x0
    go_wp2_with fail
    go_quiet (fail)
    go_wp2_with fail
    go_ret
    exact ⟨rfl, below_drewE B2.out _⟩

/-- Nothing but blocks F and b has turned. -/
structure Kept2 (w w' : World) (F b : Nat) : Prop where
  os : w'.os = w.os
  tape : w'.tape = w.tape
  output : w'.output = w.output
  size : w.heap.size ≤ w'.heap.size
  block : ∀ k, k < w.heap.size → k ≠ F → k ≠ b → w'.heap[k]? = w.heap[k]?
theorem Kept2.of_grownF {w w' : World} {F b : Nat} (h : w.grownBy w' (some F)) : Kept2 w w' F b := ⟨h.os, h.tape, h.output, h.size, fun k hk h1 _ => h.block k hk (fun e => h1 (Option.some.inj e))⟩
theorem Kept2.of_grownB {w w' : World} {F b : Nat} (h : w.grownBy w' (some b)) : Kept2 w w' F b := ⟨h.os, h.tape, h.output, h.size, fun k hk _ h2 => h.block k hk (fun e => h2 (Option.some.inj e))⟩
theorem Kept2.trans {w w' w'' : World} {F b : Nat} (h : Kept2 w w' F b) (g : Kept2 w' w'' F b) : Kept2 w w'' F b :=
  ⟨g.os.trans h.os, g.tape.trans h.tape, g.output.trans h.output, Nat.le_trans h.size g.size, fun k hk h1 h2 => (g.block k (Nat.lt_of_lt_of_le hk h.size) h1 h2).trans (h.block k hk h1 h2)⟩
theorem Kept2.below {w w' : World} {F b B : Nat} (h : Kept2 w w' F b) (h1 : B ≤ F) (h2 : B ≤ b) (h3 : B ≤ w.heap.size) : Below B w w' := ⟨h.os, h.tape, h.output, h.size, fun k hk => h.block k (by omega) (by omega) (by omega)⟩

set_option maxRecDepth 100000 in
set_option maxHeartbeats 4000000 in
theorem edit_any {w : World} {F bf bs n : Nat} {T S : Tr} {vp : Value} {now ino ops : Int} {armed : Int} {vk : Value} (h : FsIs w F bf bs n T S vp 0 now ino ops false armed vk) (p : ByteArray) (mode : Int) (v : Value) (s : ByteArray) (hp : p.size ≤ 1000)
    (hT : ∀ x ∈ T, x.1.size ≤ 1000000) (hv : ∀ w', Below w.heap.size w w' → BytesOf w' F v s) (hs : s.size ≤ 65536) (hm : mode = 1 ∨ mode = 2) (hc : chk p.data.toList = 0) (hr : T.any (badX ⟨#[]⟩ p) = false) (hn : n ≤ 1000000) (h0 : 0 ≤ ino) (h1 : ino ≤ 1000000) :
    Calls Tryd.prog 32 #[.pointer (some ⟨F, 0, none⟩), .string p, .int .i64 mode, v] w fun e w' => ∃ bs', e = .returned (.int .i64 0) ∧ FsIs w' F bf bs' (n + 1) (putT T p ⟨mode, now, inoOf T p ino, s⟩) (putT T p ⟨mode, now, inoOf T p ino, s⟩) (.slice none 0 0) 0 now (inoNew T p ino) ops false armed vk ∧ Kept2 w w' F bf := by
  have RF := Lib.hid (refusesFile_ok h p mode v s hp hT (hv w (Below.refl _ _)) hs hm hc hr)
  have HFS := Lib.hid h
  have HV := Lib.hid hv
  have HN := Lib.hid hn
  have HI := Lib.hid (And.intro h0 h1)
  have HP := Lib.hid hp
  clear h hv hT hs hm hc hr hn h0 h1 hp
  go_enter Tryd.func32, Tryd.ntmps32
  go_wp2_with fail
  refine RF.out.mono ?_
  rintro e w1 ⟨rfl, b1⟩
  have FS1 := Lib.hid (HFS.out.below b1)
  have B1 := Lib.hid b1
  clear b1 RF
  go_upto_region 4 with fail
  have FS1d : Hid (FsIs w1.drew F bf bs n T S vp 0 now ino ops false armed vk) := Lib.hid ⟨FS1.out.x, FS1.out.f, FS1.out.s, FS1.out.ne⟩
  have z0 : w1.drew.cell? ⟨F, 0, none⟩ = some (.map (some bf)) := FS1d.out.x.cell 0
  have FR := Lib.hid (show Calls Tryd.prog 64 #[.pointer (some ⟨F, 0, none⟩), .string p, .int .i64 mode, v] w1.drew fun e w' => e = .returned (.agg #[.int .i64 mode, .int .i64 now, .int .i64 (inoOf T p ino), .string s]) ∧ FsIs w' F bf bs n T S vp 0 now (inoNew T p ino) ops false armed vk ∧ w1.drew.grownBy w' (some F) from
    fresh_any FS1d.out p mode v s (by have := HP.out; unfold maxLen; omega) (HV.out _ B1.out.drew) HI.out.1 (by have := HI.out.2; omega))
  have DW := Lib.hid (fun (w' : World) (hf : TreeIs w' bf n T) => (show Calls Tryd.prog 40 #[.map (some bf), .agg #[.int .i64 0, .string ⟨#[]⟩, .string p, .int .i64 mode, .int .i64 now, .int .i64 (inoOf T p ino), .string s]] w' fun e w'' => e = .returned (.tuple #[]) ∧ TreeIs w'' bf (n + 1) (putT T p ⟨mode, now, inoOf T p ino, s⟩) ∧ w'.grownBy w'' (some bf) from
    do_write w' bf n T ⟨#[]⟩ p ⟨mode, now, inoOf T p ino, s⟩ hf (by have := HN.out; unfold maxLen; omega) (by have := HP.out; unfold maxLen; omega)))
  go_region_held3 (fun w' => w'.cell? ⟨F, 0, none⟩ = some (.map (some bf))) (first | exact z0 | exact z6 | exact z7) (first
    | (go_at_call 40; (with_reducible refine (DW.out w6 FS6.f).mono ?_); rintro e w7 ⟨rfl, T7, G7⟩; have KF7 := FS6.x.grown G7 (fun e => blk_tree_ne FS6.x FS6.f (Option.some.inj e)); have z7 : w7.cell? ⟨F, 0, none⟩ = some (.map (some bf)) := KF7.cell 0)
    | (go_at_call 64; (with_reducible refine FR.out.mono ?_); rintro e w6 ⟨rfl, FS6, G6⟩; have z6 : w6.cell? ⟨F, 0, none⟩ = some (.map (some bf)) := FS6.x.cell 0))
  all_goals
    have FS7 := Lib.hid (show FsIs w7 F bf bs (n + 1) (putT T p ⟨mode, now, inoOf T p ino, s⟩) S vp 0 now (inoNew T p ino) ops false armed vk → True from fun _ => trivial)
    have FS8 : FsIs w7 F bf bs (n + 1) (putT T p ⟨mode, now, inoOf T p ino, s⟩) S vp 0 now (inoNew T p ino) ops false armed vk := ⟨KF7, T7, (FS6.s.kept G7 (fun e => FS6.ne (Option.some.inj e).symm)).mono (Nat.le_succ _), FS6.ne⟩
    have HK := Lib.hid ((Kept2.of_grownF (b := bf) (grown_below (r := some F) B1.out.drew)).trans ((Kept2.of_grownF (b := bf) G6).trans (Kept2.of_grownB (F := F) G7)))
    have ST := Lib.hid (settle_any FS8)
    clear FS6 G6 z6 T7 G7 KF7 z7 FS8 z0 FS7
    go_wp2_with fail
    refine ST.out.mono ?_
    rintro e w8 ⟨bs', rfl, FS9, G9⟩
    have H9 := Lib.hid FS9
    have HK9 := Lib.hid (HK.out.trans (Kept2.of_grownF (b := bf) G9))
    clear FS9 G9 ST
    go_wp2_with fail
    go_ret
    exact ⟨bs', rfl, H9.out, HK9.out⟩
end Go.Proofs.YtcnmlgmlijgmhaaDoor
