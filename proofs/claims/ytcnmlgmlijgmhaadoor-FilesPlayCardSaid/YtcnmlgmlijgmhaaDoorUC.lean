/-
  Same, of a disk that is off.
  Same, of a disk that is on.
  The document's disk: a file as it would be written now.
  The document's disk: an op done, unless the power goes.
-/
import Derived.Test.YtcnmlgmlijgmhaaDoorUB
import Derived.Test.YtcnmlgmlijgmhaaDoorUA

namespace Go.Proofs.YtcnmlgmlijgmhaaDoor
open Go Go.RowKit Go.Shelf Go.Maps

def cSt (s : ByteArray) : List Value := [.string s]
theorem cSt_flat (l : List ByteArray) : l.flatMap cSt = l.map Value.string := by
  induction l with
  | nil => rfl
  | cons a l ih => rw [List.flatMap_cons, ih]; rfl
theorem Nms.of_own {w : World} {base : Nat} {v : Value} {l : List ByteArray} (h : w.ownsRow base 9 1 v l.length (l.map Value.string)) : Reads 1 cSt w v l :=
  Reads.of_own (fun _ => rfl) (by rw [cSt_flat]; exact h)
theorem Nms.at_ {w : World} {A : Option Addr} {n c : Nat} {l : List ByteArray} (h : Reads 1 cSt w (.slice A n c) l) {i : Nat} {b : ByteArray} (hi : l[i]? = some b) : ∃ ad : Addr, A = some ad ∧ w.cell? (ad.add i) = some (.string b) := by
  obtain ⟨ad, rfl, hc⟩ := h.at_ hi
  exact ⟨ad, rfl, by have := hc 0 _ rfl; unfold adr at this; simpa [Nat.mul_one, add_zero_addr] using this⟩
set_option maxRecDepth 100000 in
set_option maxHeartbeats 4000000 in
theorem same_off {w : World} {B N B' G : Nat} {L : Loc} {D : DK} {K : Value → List Bool → Prop} {kv nv wv kev : Value} {left : Int} (h : DiskIs w B L N D) (g : DocIs w B' G K kv nv wv left kev D) (ho : D.off = true) :
    Calls Tryd.prog 15 #[.pointer (some ⟨L.F, 0, none⟩), .pointer (some ⟨G, 0, none⟩)] w fun e w' => e = .returned (.bool true) ∧ Below w.heap.size w w' := by
  obtain ⟨An, cn, rfl⟩ := own_form g.n
  obtain ⟨Aw, cw, rfl⟩ := own_form g.p
  have fs := h.fs
  rw [ho] at fs
  have g6 := g.x.cell 6
  rw [ho] at g6
  have g2 := g.x.cell 2
  have g4 := g.x.cell 4
  have g10 := g.x.cell 10
  have FD := Lib.hid (fun n => fs.below (below_drewE (Below.refl w.heap.size w) n))
  have PS := Lib.hid (fun n => (show (w.drewN n).ownsRow B 80 7 L.vp D.ps.length (D.ps.flatMap cO) from own_keep h.ps (below_drewE (Below.refl w.heap.size w) n)))
  clear fs h g ho
  go_enter Tryd.func15, Tryd.ntmps15
  go_upto_region 1 with fail
  go_quiet (first
    | (go_at_call 26; exact Calls.quiet_of_same ((off_any (FD.out _)).mono (fun _ _ h => ⟨h.1, h.2.symm⟩)))
    | (go_at_call 24; exact Calls.quiet_of_same ((pending_any (FD.out _) (PS.out _)).mono (fun _ _ h => ⟨h.1, h.2.symm⟩)))
    | (go_at_call 33; exact Calls.quiet_of_same ((now_any (FD.out _)).mono (fun _ _ h => ⟨h.1, h.2.symm⟩)))
    | (go_at_call 27; exact Calls.quiet_of_same ((ops_any (FD.out _)).mono (fun _ _ h => ⟨h.1, h.2.symm⟩))))
  go_wp2_with (go_at_call 20; refine (list_off (FD.out _)).mono ?_; rintro e w2 ⟨rfl, rfl⟩)
  go_ret
  exact ⟨rfl, below_drewE (Below.refl _ w) _⟩
end Go.Proofs.YtcnmlgmlijgmhaaDoor

namespace Go.Proofs.YtcnmlgmlijgmhaaDoor
open Go Go.RowKit Go.Shelf Go.Maps

theorem getT_at {T : Tr} (ho : KeysOnce T) {i : Nat} {p : ByteArray} {f : FV} (h : T[i]? = some (p, f)) : getT T p = some f := by
  unfold KeysOnce at ho
  rw [List.pairwise_iff_getElem] at ho
  refine (idx_at h fun j x hj hx => ?_).2
  obtain ⟨hi, hi2⟩ := List.getElem?_eq_some_iff.1 h
  obtain ⟨hj1, hj2⟩ := List.getElem?_eq_some_iff.1 hx
  have := ho j i hj1 hi hj
  rw [hj2, hi2] at this
  exact this
set_option maxRecDepth 100000 in
set_option maxHeartbeats 8000000 in
theorem same_on {w : World} {B N B' G : Nat} {L : Loc} {D : DK} {K : Value → List Bool → Prop} {kv nv wv kev : Value} {left : Int} (h : DiskIs w B L N D) (g : DocIs w B' G K kv nv wv left kev D) (ho : D.off = false) (hs : namesV D.T = D.T.map (·.1)) (hl : D.T.length ≤ 1000) (hu : usedV D.T ≤ 1000000000) :
    Calls Tryd.prog 15 #[.pointer (some ⟨L.F, 0, none⟩), .pointer (some ⟨G, 0, none⟩)] w fun e w' => e = .returned (.bool true) ∧ Below w.heap.size w w' := by
  obtain ⟨An, cn, rfl⟩ := own_form g.n
  obtain ⟨Aw, cw, rfl⟩ := own_form g.p
  have fs := h.fs
  rw [ho] at fs
  have g6 := g.x.cell 6
  rw [ho] at g6
  have g2 := g.x.cell 2
  have g4 := g.x.cell 4
  have g10 := g.x.cell 10
  have HO := Lib.hid h.fs.f.once
  have HT := Lib.hid h.sT
  have HL := Lib.hid (And.intro hl (And.intro hu hs))
  have HG := Lib.hid g.b
  have HGo := Lib.hid ho
  have HF := Lib.hid fs
  have FD := Lib.hid (fun n => fs.below (below_drewE (Below.refl w.heap.size w) n))
  have PS := Lib.hid (fun n => (show (w.drewN n).ownsRow B 80 7 L.vp D.ps.length (D.ps.flatMap cO) from own_keep h.ps (below_drewE (Below.refl w.heap.size w) n)))
  clear fs h g ho hs hl hu
  go_enter Tryd.func15, Tryd.ntmps15
  go_upto_region 1 with fail
  go_quiet (first
    | (go_at_call 26; exact Calls.quiet_of_same ((off_any (FD.out _)).mono (fun _ _ h => ⟨h.1, h.2.symm⟩)))
    | (go_at_call 24; exact Calls.quiet_of_same ((pending_any (FD.out _) (PS.out _)).mono (fun _ _ h => ⟨h.1, h.2.symm⟩)))
    | (go_at_call 33; exact Calls.quiet_of_same ((now_any (FD.out _)).mono (fun _ _ h => ⟨h.1, h.2.symm⟩)))
    | (go_at_call 27; exact Calls.quiet_of_same ((ops_any (FD.out _)).mono (fun _ _ h => ⟨h.1, h.2.symm⟩))))
  go_upto_region 6 with (go_at_call 20; refine (list_on (FD.out _) (by have := HL.out.1; omega)).mono ?_; rintro e w2 ⟨vl, rfl, own, b2⟩; rw [HL.out.2.2, List.length_map] at own; obtain ⟨Al, cl, rfl⟩ := own_form own; have RL := Lib.hid (Nms.of_own (l := D.T.map (·.1)) (by rw [List.length_map]; exact own)); have B2 := Lib.hid (show Below w.heap.size w w2 from (below_drewE (Below.refl w.heap.size w) _).trans b2); clear own b2; have g6 := (HG.out.below B2.out).x.cell 6; rw [HGo.out] at g6)
  clear g6 g2 g4 g10
  obtain ⟨us, hus⟩ : ∃ u, u = usedV D.T := ⟨_, rfl⟩
  have US := Lib.hid (show Calls Tryd.prog 35 #[.pointer (some ⟨L.F, 0, none⟩)] w2.drew fun e w' => e = .returned (.int .i64 us) ∧ Below w2.heap.size w2.drew w' from by
    rw [hus]
    exact used_any (HF.out.below B2.out.drew) (by have := HL.out.2.1; omega))
  have U5 := Lib.hid (fun W (hb : Below w.heap.size w W) => (show Calls Tryd.prog 54 #[.slice An D.T.length cn] W fun e w' => e = .returned (.int .i64 us) ∧ W = w' from by
    rw [hus]
    exact used54_any W _ D.T (OOwn.reads (HG.out.below hb).n) (by have := HL.out.1; omega) (by have := HL.out.2.1; omega)))
  clear hus
  go_cut [5, 85] (fun s5 s85 wx => s5 = .slice Al D.T.length cl ∧ s85 = .bool false ∧ Hid (Below w.heap.size w wx) ∧ Hid (Below w2.heap.size w2 wx))
  case first =>
    have z0 : w2.drew.cell? ⟨G, 1, none⟩ = some (.slice An D.T.length cn) := (HG.out.below B2.out.drew).x.cell 1
    go_region_held3 (fun w' => w'.cell? ⟨G, 1, none⟩ = some (.slice An D.T.length cn)) (first | exact z0 | exact z6) (first
      | (go_at_call 35; (with_reducible refine US.out.mono ?_); rintro e w6 ⟨rfl, b6⟩; have B6 : Below w.heap.size w w6 := B2.out.drew.trans (b6.mono B2.out.size); have z6 : w6.cell? ⟨G, 1, none⟩ = some (.slice An D.T.length cn) := (HG.out.below B6).x.cell 1)
      | (go_at_call 54; (first | (with_reducible refine (U5.out _ B6).mono ?_) | (with_reducible refine (U5.out _ B2.out.drew).mono ?_)); rintro e w7 ⟨rfl, rfl⟩))
    all_goals
      clear z6 z0
      go_wp2_with fail
      go_meet
      exact ⟨rfl, rfl, Lib.hid B6, Lib.hid ((Below.refl w2.heap.size w2).drew.trans b6)⟩
  obtain ⟨rfl, rfl, hb1, hb2⟩ := hcut
  clear g6 US U5
  have RL2 := Lib.hid (RL.out.below hb2.out)
  have HB2 := Lib.hid hb1.out
  clear hb1 hb2
  go_wp2_with fail
  go_loopw [7] (fun s7 wr => ∃ i : Nat, i ≤ D.T.length ∧ s7 = .int .i64 i ∧ Hid (Below wc.heap.size wc wr)) (fun s7 _ => D.T.length - (intOf s7).toNat)
  case atStart => exact ⟨0, Nat.zero_le _, rfl, Lib.hid (Below.refl _ _)⟩
  case round =>
    obtain ⟨i, hi, rfl, hbr⟩ := hrel
    have BR := Lib.hid (HB2.out.trans (hbr.out.mono HB2.out.size))
    have i0 : (0 : Int) ≤ (i : Int) := Int.natCast_nonneg _
    by_cases hlt : i < D.T.length
    · have i1 : (i : Int) < (D.T.length : Int) := by omega
      obtain ⟨⟨p, f⟩, hx⟩ : ∃ x, D.T[i]? = some x := ⟨_, List.getElem?_eq_getElem hlt⟩
      have hgt := getT_at HO.out hx
      have hpz : p.size ≤ 1000 := HT.out _ (List.mem_of_getElem? hx)
      have g1 := (HG.out.below BR.out).x.cell 1
      obtain ⟨ad, rfl, k0, k1, k2, k3, k4⟩ := Ones.at_ (OOwn.reads (HG.out.below BR.out).n) hx
      obtain ⟨bd, rfl, m0⟩ := Nms.at_ (RL2.out.below hbr.out) (i := i) (b := p) (by rw [List.getElem?_map, hx]; rfl)
      have B3 := BR.out.alloc BR.out.size (.cells #[.string p, .string f.data, .int .i64 f.mode, .int .i64 f.time, .int .i64 f.inode] 87)
      have RD := Lib.hid (read_yes (HF.out.below B3) p hpz hgt)
      have SD := Lib.hid (fun W (hb : Below w.heap.size w W) => (show Calls Tryd.prog 22 #[.pointer (some ⟨L.F, 0, none⟩), .string p] W fun e w' => e = .returned (.tuple #[.agg #[.int .i64 (f.data.size : Int), .int .i64 f.time, .int .i64 f.inode, .int .i64 f.mode], .int .i64 0]) ∧ Below W.heap.size W w' from stat_yes (HF.out.below hb) p hpz hgt))
      have NL := Lib.hid (fun W (hb : Below wr.heap.size wr W) => (show W.cell? (bd.add i) = some (.string p) from (hb.cell (World.block_lt_of_cell? wr _ m0)).trans m0))
      have Br := Lib.hid ((Below.refl wr.heap.size wr).alloc (Nat.le_refl _) (.cells #[.string p, .string f.data, .int .i64 f.mode, .int .i64 f.time, .int .i64 f.inode] 87))
      have n3 := NL.out _ Br.out
      have XN := Lib.hid (Blk.new wr 87 #[.string p, .string f.data, .int .i64 f.mode, .int .i64 f.time, .int .i64 f.inode])
      have HB3 := Lib.hid B3
      have HX := Lib.hid hlt
      have hib : (i : Int) ≤ 1000 := by have := HL.out.1; omega
      clear hx hgt hpz B3 hlt hi
      go_upto_region 14 with (first
        | (go_at_call 19; refine RD.out.mono ?_; rintro e w4 ⟨vb, rfl, cv, b4⟩; have B4 := Lib.hid (HB3.out.trans (b4.mono HB3.out.size)); have Br4 := Lib.hid (Br.out.trans (b4.mono Br.out.size)); have n4 := NL.out w4 Br4.out; have X4 := Lib.hid (XN.out.below b4 XN.out.lt); have CV := Lib.hid cv; have SD4 := Lib.hid (SD.out w4 B4.out); clear cv b4 n3 k0 k1 k2 k3 k4 m0 g1)
        | (go_at_call 22; refine SD4.out.mono ?_; rintro e w5 ⟨rfl, b5⟩; have B5 := Lib.hid (B4.out.trans (b5.mono B4.out.size)); have Br5 := Lib.hid (Br4.out.trans (b5.mono Br4.out.size)); have X5 := Lib.hid (X4.out.below b5 X4.out.lt); have b45 := Lib.hid b5; clear b5 n4))
      have n6 := NL.out _ (Br5.out.alloc Br5.out.size (.cells #[.int .i64 (f.data.size : Int), .int .i64 f.time, .int .i64 f.inode, .int .i64 f.mode] 51))
      have X6 := X5.out.alloc (.cells #[.int .i64 (f.data.size : Int), .int .i64 f.time, .int .i64 f.inode, .int .i64 f.mode] 51)
      have S6 := Blk.new w5 51 #[.int .i64 (f.data.size : Int), .int .i64 f.time, .int .i64 f.inode, .int .i64 f.mode]
      have p0 := X6.cell 0
      have p1 := X6.cell 1
      have p2 := X6.cell 2
      have p3 := X6.cell 3
      have p4 := X6.cell 4
      have q0 := S6.cell 0
      have q1 := S6.cell 1
      have q2 := S6.cell 2
      have q3 := S6.cell 3
      have c6 := fun n => CV.out ((w5.alloc (.cells #[.int .i64 (f.data.size : Int), .int .i64 f.time, .int .i64 f.inode, .int .i64 f.mode] 51)).drewN n) (below_drewE (b45.out.alloc b45.out.size (.cells #[.int .i64 (f.data.size : Int), .int .i64 f.time, .int .i64 f.inode, .int .i64 f.mode] 51)) n)
      have c7 := CV.out (w5.alloc (.cells #[.int .i64 (f.data.size : Int), .int .i64 f.time, .int .i64 f.inode, .int .i64 f.mode] 51)).drew ((b45.out.alloc b45.out.size (.cells #[.int .i64 (f.data.size : Int), .int .i64 f.time, .int .i64 f.inode, .int .i64 f.mode] 51)).drew)
      have B7 := Lib.hid (B5.out.alloc B5.out.size (.cells #[.int .i64 (f.data.size : Int), .int .i64 f.time, .int .i64 f.inode, .int .i64 f.mode] 51))
      clear X6 S6 RD SD
      go_quiet (fail)
      clear n6 p0 p1 p2 p3 p4 q0 q1 q2 q3 c6 c7
      go_wp2_with fail
      go_roundw
      case rel => exact ⟨i + 1, by have := HX.out; omega, by go_num, Lib.hid (hbr.out.trans ((show Below wr.heap.size wr _ from below_drewE (Br5.out.alloc Br5.out.size _) _).mono hbr.out.size))⟩
      case measure => have := HX.out; simp [intOf]; omega
    · have hie : i = D.T.length := by omega
      subst hie
      go_wp2_with fail
      go_ret
      exact ⟨rfl, BR.out⟩
end Go.Proofs.YtcnmlgmlijgmhaaDoor

namespace Go.Proofs.YtcnmlgmlijgmhaaDoor
open Go Go.RowKit Go.Shelf Go.Maps

section
variable {w w' : World} {B G : Nat} {K : Value → List Bool → Prop} {kv nv wv kev : Value} {left : Int} {D : DK}
theorem DocIs.farSet (h : DocIs w B G K kv nv wv left kev D) {g : Nat} {t : TypeId} {cs : Array Value} (hg : Blk w g t cs) (hG : g ≠ G) (h87 : t ≠ 87) (h90 : t ≠ 90) (j : Nat) (u : Value) : DocIs (w.setCell ⟨g, j, none⟩ u) B G K kv nv wv left kev D :=
  ⟨h.x.far (fun e => hG e.symm) u, h.k.kept (grown_cellF w g j u) (Or.inr (own_blk_ne h.k hg (fun e => h87 e.symm))), h.n.kept (grown_cellF w g j u) (Or.inr (own_blk_ne h.n hg (fun e => h87 e.symm))), h.p.kept (grown_cellF w g j u) (Or.inr (own_blk_ne h.p hg (fun e => h90 e.symm))), h.a, h.lo⟩
/-- A block that came behind. -/
theorem DocIs.newSet (h : DocIs w B G K kv nv wv left kev D) (hs : ∀ k, k < w.heap.size → w'.heap[k]? = w.heap[k]?) (h1 : w'.os = w.os) (h2 : w'.tape = w.tape) (h3 : w'.output = w.output) (h4 : w.heap.size ≤ w'.heap.size) : DocIs w' B G K kv nv wv left kev D :=
  h.below ⟨h1, h2, h3, h4, hs⟩
theorem DocIs.setIno (h : DocIs w B G K kv nv wv left kev D) (i : Int) : DocIs (w.setCell ⟨G, 5, none⟩ (.int .i64 i)) B G K kv nv wv left kev { D with ino := i } :=
  ⟨by simpa using h.x.set_ 5 (.int .i64 i), row_far h.k h.x (by decide) 5 _, row_far h.n h.x (by decide) 5 _, row_far h.p h.x (by decide) 5 _, h.a, h.lo⟩
theorem DocIs.setOps (h : DocIs w B G K kv nv wv left kev D) (i : Int) : DocIs (w.setCell ⟨G, 10, none⟩ (.int .i64 i)) B G K kv nv wv left kev { D with ops := i } :=
  ⟨by simpa using h.x.set_ 10 (.int .i64 i), row_far h.k h.x (by decide) 10 _, row_far h.n h.x (by decide) 10 _, row_far h.p h.x (by decide) 10 _, h.a, h.lo⟩
end
theorem row_after {w w' : World} {G B k n : Nat} {e : TypeId} {v : Value} {xs : List Value} (h : w.ownsRow B e k v n xs) (ht : Turns w w' (fun k => k = G)) (hg : v.ownBlock ≠ some G) : w'.ownsRow B e k v n xs := by
  obtain ⟨h1, h2⟩ := h
  refine ⟨h1, h2.imp id ?_⟩
  rintro ⟨g, cap, cur, e, hb, hh, rest⟩
  exact ⟨g, cap, cur, e, hb, (ht.block g (Array.getElem?_eq_some_iff.1 hh).1 (fun e2 => hg (by rw [e, ← e2]; rfl))).trans hh, rest⟩
theorem DocIs.after {w w' : World} {B G : Nat} {K : Value → List Bool → Prop} {kv nv wv kev : Value} {left : Int} {D : DK} (h : DocIs w B G K kv nv wv left kev D) (ht : Turns w w' (fun k => k = G)) (i o : Int)
    (hx : Blk w' G 31 #[kv, nv, wv, .int .i64 D.q, .int .i64 D.now, .int .i64 i, .bool D.off, .bool (decide (D.armed ≠ 0)), .int .i64 left, kev, .int .i64 o]) : DocIs w' B G K kv nv wv left kev { D with ino := i, ops := o } :=
  ⟨hx, row_after h.k ht (own_blk_ne h.k h.x (by decide)), row_after h.n ht (own_blk_ne h.n h.x (by decide)), row_after h.p ht (own_blk_ne h.p h.x (by decide)), h.a, h.lo⟩
set_option maxRecDepth 100000 in
set_option maxHeartbeats 4000000 in
theorem file_any {w : World} {B G : Nat} {K : Value → List Bool → Prop} {kv nv wv kev : Value} {left : Int} {D : DK} (h : DocIs w B G K kv nv wv left kev D) (p : ByteArray) (mode : Int) (b : ByteArray) (hl : D.T.length ≤ 1000) (h0 : 0 ≤ D.ino) (h1 : D.ino ≤ 1000000) :
    Calls Tryd.prog 43 #[.pointer (some ⟨G, 0, none⟩), .string p, .int .i64 mode, .string b] w fun e w' => e = .returned (.agg (aF p ⟨mode, D.now, inoOf D.T p D.ino, b⟩)) ∧ DocIs w' B G K kv nv wv left kev { D with ino := inoNew D.T p D.ino } ∧ Turns w w' (fun k => k = G) := by
  obtain ⟨An, cn, rfl⟩ := own_form h.n
  have h2 := h.below (((Below.refl w.heap.size w).alloc (Nat.le_refl _) (.cells #[.string ⟨#[]⟩, .string ⟨#[]⟩, .int .i64 0, .int .i64 0, .int .i64 0] 87)).alloc (by simp) (.cells #[.string p, .string b, .int .i64 mode, .int .i64 D.now, .int .i64 0] 87))
  have T2 := Lib.hid (show Turns w ((w.alloc (.cells #[.string ⟨#[]⟩, .string ⟨#[]⟩, .int .i64 0, .int .i64 0, .int .i64 0] 87)).alloc (.cells #[.string p, .string b, .int .i64 mode, .int .i64 D.now, .int .i64 0] 87)) (fun k => k = G) from Turns.of_below (((Below.refl w.heap.size w).alloc (Nat.le_refl _) (.cells #[.string ⟨#[]⟩, .string ⟨#[]⟩, .int .i64 0, .int .i64 0, .int .i64 0] 87)).alloc (by simp) (.cells #[.string p, .string b, .int .i64 mode, .int .i64 D.now, .int .i64 0] 87)))
  have X2 := (Blk.new w 87 #[.string ⟨#[]⟩, .string ⟨#[]⟩, .int .i64 0, .int .i64 0, .int .i64 0]).alloc (.cells #[.string p, .string b, .int .i64 mode, .int .i64 D.now, .int .i64 0] 87)
  have Y2 := Blk.new (w.alloc (.cells #[.string ⟨#[]⟩, .string ⟨#[]⟩, .int .i64 0, .int .i64 0, .int .i64 0] 87)) 87 #[.string p, .string b, .int .i64 mode, .int .i64 D.now, .int .i64 0]
  have e2 : (w.alloc (.cells #[.string ⟨#[]⟩, .string ⟨#[]⟩, .int .i64 0, .int .i64 0, .int .i64 0] 87)).heap.size = w.heap.size + 1 := by simp
  rw [e2] at Y2
  have h1' := h.below ((Below.refl w.heap.size w).alloc (Nat.le_refl _) (.cells #[.string ⟨#[]⟩, .string ⟨#[]⟩, .int .i64 0, .int .i64 0, .int .i64 0] 87))
  have c4 := h1'.x.cell 4
  have d1 := h2.x.cell 1
  have GT := get_any _ _ D.T p (OOwn.reads h2.n) (by omega)
  have XG := Lib.hid (show w.heap.size ≠ G by have := h.x.lt; omega)
  have YG := Lib.hid (show w.heap.size + 1 ≠ G by have := h.x.lt; omega)
  have H0 := Lib.hid h
  have H2 := Lib.hid h2
  have HX := Lib.hid X2
  have HY := Lib.hid Y2
  clear h h1' e2 X2 Y2
  go_enter Tryd.func43, Tryd.ntmps43
  go_upto_region 3 with fail
  generalize hW : (w.alloc (.cells #[.string ⟨#[]⟩, .string ⟨#[]⟩, .int .i64 0, .int .i64 0, .int .i64 0] 87)).alloc (.cells #[.string p, .string b, .int .i64 mode, .int .i64 D.now, .int .i64 0] 87) = W at *
  obtain ⟨X, hX⟩ : ∃ X, X = w.heap.size := ⟨_, rfl⟩
  obtain ⟨Y, hY⟩ : ∃ Y, Y = w.heap.size + 1 := ⟨_, rfl⟩
  rw [← hX] at HX XG
  rw [← hY] at HY YG
  rw [← hY, ← hX]
  have XY := Lib.hid (show X ≠ Y by omega)
  have NEW := Lib.hid (show w.heap.size ≤ X ∧ w.heap.size ≤ Y by omega)
  clear hX hY hW c4
  refine GT.mono ?_
  rintro e W' ⟨rfl, rfl⟩
  have IC := idx_cases D.T p
  obtain ⟨k, hk⟩ : ∃ k, k = idxV D.T p := ⟨_, rfl⟩
  rw [← hk] at IC ⊢
  clear hk GT d1
  have d1 := H2.out.x.cell 1
  -- a cell of a new block turned
  have tn : ∀ (a : World) (g j : Nat) (u : Value), w.heap.size ≤ g → Turns w a (fun k => k = G) → Turns w (a.setCell ⟨g, j, none⟩ u) (fun k => k = G) := fun a g j u hg ha => ⟨ha.os, ha.tape, ha.output, Nat.le_trans ha.size (by simp), fun k hk hx => (Below.heap_setCell _ _ _ _ (fun e => by dsimp only at e; omega)).trans (ha.block k hk hx)⟩
  rcases IC with ⟨i, f, hx, rfl, hg⟩ | ⟨rfl, hg⟩
  · have i0 : (0 : Int) ≤ (i : Int) := Int.natCast_nonneg _
    have i1 : (i : Int) < (D.T.length : Int) := by have := (List.getElem?_eq_some_iff.1 hx).1; omega
    obtain ⟨ad, rfl, _, _, _, _, k4⟩ := Ones.at_ (show Reads 5 cN W (.slice An D.T.length cn) (D.T.map on) from OOwn.reads H2.out.n) hx
    have HI := Lib.hid (show inoOf D.T p D.ino = f.inode ∧ inoNew D.T p D.ino = D.ino by unfold inoOf inoNew; rw [hg]; exact ⟨rfl, rfl⟩)
    have fy := HY.out.frozen 4
    have cy := HY.out.cell 4
    clear hx hg
    have Y5 := Lib.hid (show Blk (W.setCell ⟨Y, 4, none⟩ (.int .i64 f.inode)) Y 87 #[.string p, .string b, .int .i64 mode, .int .i64 D.now, .int .i64 f.inode] from by simpa using (HY.out).set_ 4 (.int .i64 f.inode))
    have X5 := Lib.hid (show Blk (W.setCell ⟨Y, 4, none⟩ (.int .i64 f.inode)) X 87 #[.string ⟨#[]⟩, .string ⟨#[]⟩, .int .i64 0, .int .i64 0, .int .i64 0] from (HX.out).far (p := ⟨Y, 4, none⟩) XY.out (.int .i64 f.inode))
    have G5 := Lib.hid (H2.out.x.far (p := ⟨Y, 4, none⟩) (fun e => YG.out e.symm) (.int .i64 f.inode))
    have T5 := Lib.hid (tn _ Y 4 (.int .i64 f.inode) NEW.out.2 (T2.out))
    have y0 := Y5.out.cell 0
    have y1 := Y5.out.cell 1
    have y2 := Y5.out.cell 2
    have y3 := Y5.out.cell 3
    have y4 := Y5.out.cell 4
    have x0 := X5.out.cell 0
    have x1 := X5.out.cell 1
    have x2 := X5.out.cell 2
    have x3 := X5.out.cell 3
    have x4 := X5.out.cell 4
    have g0 := X5.out.frozen 0
    have g1 := X5.out.frozen 1
    have g2 := X5.out.frozen 2
    have g3 := X5.out.frozen 3
    have g4 := X5.out.frozen 4
    have a5 := Lib.hid (((((X5.out.set_ 0 (.string p)).set_ 1 (.string b)).set_ 2 (.int .i64 mode)).set_ 3 (.int .i64 D.now)).set_ 4 (.int .i64 f.inode))
    have t5 := Lib.hid (tn _ X 4 (.int .i64 f.inode) NEW.out.1 (tn _ X 3 (.int .i64 D.now) NEW.out.1 (tn _ X 2 (.int .i64 mode) NEW.out.1 (tn _ X 1 (.string b) NEW.out.1 (tn _ X 0 (.string p) NEW.out.1 T5.out)))))
    have gx := fun (a : World) (j : Nat) (u : Value) (cs : Array Value) (h : Blk a G 31 cs) => h.far (p := ⟨X, j, none⟩) (fun e => XG.out e.symm) u
    have g5 := Lib.hid (gx _ 4 (.int .i64 f.inode) _ (gx _ 3 (.int .i64 D.now) _ (gx _ 2 (.int .i64 mode) _ (gx _ 1 (.string b) _ (gx _ 0 (.string p) _ G5.out)))))
    clear tn gx
    go_wp2_with fail
    refine bodyPost_ret (results_cell_row (fn := Tryd.f43) rfl _ _ X 87 #[.string p, .string b, .int .i64 mode, .int .i64 D.now, .int .i64 f.inode] (0, 0) _ rfl (show Blk _ X 87 _ by simpa using a5.out) Tryd.underlying87 rfl (by kernel_rfl)) rfl ⟨by rw [HI.out.1], ?_, t5.out⟩
    rw [HI.out.2]
    exact H0.out.after t5.out _ D.ops (by simpa using g5.out)
  · have HI := Lib.hid (show inoOf D.T p D.ino = D.ino + 1 ∧ inoNew D.T p D.ino = D.ino + 1 by unfold inoOf inoNew; rw [hg]; exact ⟨rfl, rfl⟩)
    have k5 := H2.out.x.cell 5
    have f5 := H2.out.x.frozen 5
    have l5 := (H2.out.x.set_ 5 (.int .i64 (D.ino + 1))).cell 5
    have fy := (HY.out.far (p := ⟨G, 5, none⟩) YG.out (.int .i64 (D.ino + 1))).frozen 4
    have cy := (HY.out.far (p := ⟨G, 5, none⟩) YG.out (.int .i64 (D.ino + 1))).cell 4
    clear hg
    have Y5 := Lib.hid (show Blk ((W.setCell ⟨G, 5, none⟩ (.int .i64 (D.ino + 1))).setCell ⟨Y, 4, none⟩ (.int .i64 (D.ino + 1))) Y 87 #[.string p, .string b, .int .i64 mode, .int .i64 D.now, .int .i64 (D.ino + 1)] from by simpa using ((HY.out.far (p := ⟨G, 5, none⟩) YG.out _)).set_ 4 (.int .i64 (D.ino + 1)))
    have X5 := Lib.hid (show Blk ((W.setCell ⟨G, 5, none⟩ (.int .i64 (D.ino + 1))).setCell ⟨Y, 4, none⟩ (.int .i64 (D.ino + 1))) X 87 #[.string ⟨#[]⟩, .string ⟨#[]⟩, .int .i64 0, .int .i64 0, .int .i64 0] from ((HX.out.far (p := ⟨G, 5, none⟩) XG.out _)).far (p := ⟨Y, 4, none⟩) XY.out (.int .i64 (D.ino + 1)))
    have G5 := Lib.hid ((H2.out.x.set_ 5 (.int .i64 (D.ino + 1))).far (p := ⟨Y, 4, none⟩) (fun e => YG.out e.symm) (.int .i64 (D.ino + 1)))
    have T5 := Lib.hid (tn _ Y 4 (.int .i64 (D.ino + 1)) NEW.out.2 ((T2.out.trans (Turns.cell _ G 5 (.int .i64 (D.ino + 1))))))
    have y0 := Y5.out.cell 0
    have y1 := Y5.out.cell 1
    have y2 := Y5.out.cell 2
    have y3 := Y5.out.cell 3
    have y4 := Y5.out.cell 4
    have x0 := X5.out.cell 0
    have x1 := X5.out.cell 1
    have x2 := X5.out.cell 2
    have x3 := X5.out.cell 3
    have x4 := X5.out.cell 4
    have g0 := X5.out.frozen 0
    have g1 := X5.out.frozen 1
    have g2 := X5.out.frozen 2
    have g3 := X5.out.frozen 3
    have g4 := X5.out.frozen 4
    have a5 := Lib.hid (((((X5.out.set_ 0 (.string p)).set_ 1 (.string b)).set_ 2 (.int .i64 mode)).set_ 3 (.int .i64 D.now)).set_ 4 (.int .i64 (D.ino + 1)))
    have t5 := Lib.hid (tn _ X 4 (.int .i64 (D.ino + 1)) NEW.out.1 (tn _ X 3 (.int .i64 D.now) NEW.out.1 (tn _ X 2 (.int .i64 mode) NEW.out.1 (tn _ X 1 (.string b) NEW.out.1 (tn _ X 0 (.string p) NEW.out.1 T5.out)))))
    have gx := fun (a : World) (j : Nat) (u : Value) (cs : Array Value) (h : Blk a G 31 cs) => h.far (p := ⟨X, j, none⟩) (fun e => XG.out e.symm) u
    have g5 := Lib.hid (gx _ 4 (.int .i64 (D.ino + 1)) _ (gx _ 3 (.int .i64 D.now) _ (gx _ 2 (.int .i64 mode) _ (gx _ 1 (.string b) _ (gx _ 0 (.string p) _ G5.out)))))
    clear tn gx
    go_wp2_with fail
    refine bodyPost_ret (results_cell_row (fn := Tryd.f43) rfl _ _ X 87 #[.string p, .string b, .int .i64 mode, .int .i64 D.now, .int .i64 (D.ino + 1)] (0, 0) _ rfl (show Blk _ X 87 _ by simpa using a5.out) Tryd.underlying87 rfl (by kernel_rfl)) rfl ⟨by rw [HI.out.1], ?_, t5.out⟩
    rw [HI.out.2]
    exact H0.out.after t5.out _ D.ops (by simpa using g5.out)
end Go.Proofs.YtcnmlgmlijgmhaaDoor

namespace Go.Proofs.YtcnmlgmlijgmhaaDoor
open Go Go.RowKit Go.Shelf Go.Maps

theorem doc_fin {w : World} {B G : Nat} {K : Value → List Bool → Prop} {kv nv wv kev : Value} {left a' : Int} {D : DK} {T' : Tr} {ps' : List Ov} (h : DocB w B G kv nv wv left kev { D with T := T', ps := ps' }) (hd : decide (D.armed ≠ 0) = decide (a' ≠ 0)) (hk : a' ≠ 0 → left = a' ∧ K kev D.ks) :
    DocIs (w.setCell ⟨G, 10, none⟩ (.int .i64 (D.ops + 1))) B G K kv nv wv left kev { D with T := T', ps := ps', ops := D.ops + 1, armed := a' } := by
  have hx := h.x
  have x := hx.set_ 10 (.int .i64 (D.ops + 1))
  dsimp only at x
  rw [hd] at x
  exact ⟨by simpa using x, row_far h.k hx (by decide) 10 _, row_far h.n hx (by decide) 10 _, row_far h.p hx (by decide) 10 _, hk, h.lo⟩
section
variable {w : World} {B G : Nat} {K : Value → List Bool → Prop} {kv nv wv kev : Value} {left : Int} {D : DK}
set_option maxRecDepth 100000 in
set_option maxHeartbeats 4000000 in
theorem ddo_down (h : DocIs w B G K kv nv wv left kev D) (ha : D.armed = 1) (d : Od) (hK : ∀ v l, K v l → ∀ w', Turns w w' (fun k => k = G) → Reads 1 cB w' v l) (hB : B ≤ w.heap.size) (hp : D.ps.length ≤ 1000) (hl : ∀ i, (cutN D.S D.ps D.ks i).length ≤ 100000) (hS : Short D.S) (ho : ∀ o ∈ D.ps, okP o) :
    Calls Tryd.prog 42 #[.pointer (some ⟨G, 0, none⟩), .agg (aD d)] w fun e w' => ∃ kv' left' kev', e = .returned (.int .i64 13) ∧ DocIs w' B G K kv' kv' (.slice none 0 0) left' kev' (cutD D D.ks) ∧ Turns w w' (fun k => k = G) := by
  obtain ⟨hleft, hke⟩ := h.a (by omega)
  have RK := hK _ _ hke
  obtain ⟨Ae, ce, rfl⟩ := (RK w (Turns.refl _ _)).form
  have h1 := h.b.below ((Below.refl w.heap.size w).alloc (Nat.le_refl _) (.cells (aD d) 90))
  have T1 := Turns.of_below (X := fun k => k = G) ((Below.refl w.heap.size w).alloc (Nat.le_refl _) (.cells (aD d) 90))
  have T2 := Lib.hid (T1.trans (Turns.cell _ G 8 (.int .i64 0)))
  have h2 := h1.setLeft 0
  have c7 := h1.x.cell 7
  have c8 := h1.x.cell 8
  have f8 := h1.x.frozen 8
  have e8 := h2.x.cell 8
  have e9 := h2.x.cell 9
  rw [hleft, ha] at c8
  rw [ha] at c7
  have PW := Lib.hid (power_any (K := K) h2 (.slice Ae D.ks.length ce) D.ks (fun w' ht => RK w' (T2.out.trans ht)) (Nat.le_trans hB (by simp)) hp hl hS ho)
  clear h h1 h2 hK RK hke hleft T1 ha hB hp hl hS ho
  go_enter Tryd.func42, Tryd.ntmps42
  go_wp2_with (go_at_call 49; refine PW.out.mono ?_; rintro e w2 ⟨kv', rfl, hd, ht⟩; have HD := Lib.hid hd; have HT := Lib.hid (T2.out.trans ht); clear hd ht)
  go_ret
  exact ⟨kv', 0, _, rfl, HD.out, HT.out⟩
end
end Go.Proofs.YtcnmlgmlijgmhaaDoor
