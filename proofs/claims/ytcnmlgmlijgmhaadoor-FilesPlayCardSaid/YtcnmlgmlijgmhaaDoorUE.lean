/-
  The program's disk and the document's, side by side; the calls that only set a cell.
  Both disks: Sync, Cut, Arm.
  Both disks: Remove, Unlink.
  Both disks: Remove.
  Both disks: Rename.
  Both disks: Write.
  Trees rise by their paths; what an act makes of a disk by its values, and the bounds of a play.
-/
import Derived.Test.YtcnmlgmlijgmhaaDoorUC
import Derived.Test.YtcnmlgmlijgmhaaDoorUD
import Derived.Test.YtcnmlgmlijgmhaaDoorUI
import Derived.Test.YtcnmlgmlijgmhaaDoorSgD

namespace Go.Proofs.YtcnmlgmlijgmhaaDoor
open Go Go.RowKit Go.Shelf Go.Maps

theorem row_turns {w w' : World} {B k n : Nat} {e : TypeId} {v : Value} {xs : List Value} {X : Nat → Prop} (h : w.ownsRow B e k v n xs) (ht : Turns w w' X) (hx : ∀ k, v.ownBlock = some k → ¬ X k) : w'.ownsRow B e k v n xs := by
  obtain ⟨h1, h2⟩ := h
  refine ⟨h1, h2.imp id ?_⟩
  rintro ⟨g, cap, cur, e, hb, hh, rest⟩
  exact ⟨g, cap, cur, e, hb, (ht.block g (Array.getElem?_eq_some_iff.1 hh).1 (hx _ (by rw [e]; rfl))).trans hh, rest⟩
section
variable {w w' : World} {B B' N G : Nat} {K : Value → List Bool → Prop} {kv nv wv kev : Value} {left : Int} {L : Loc} {D E : DK}
/-- A row of a type that the disk has none of lies apart from it. -/
theorem DiskIs.rowFar (h : DiskIs w B L N E) {e : TypeId} {b k n : Nat} {v : Value} {xs : List Value} (g : w.ownsRow b e k v n xs) (h1 : e ≠ 74) (h2 : e ≠ 80) (j : Nat) (hv : v.ownBlock = some j) : ¬ L.foot j := by
  rintro (rfl | rfl | rfl | hp)
  · exact own_blk_ne g h.fs.x h1 hv
  · exact own_tree_ne g h.fs.f hv
  · exact own_tree_ne g h.fs.s hv
  · rcases own_own_ne g h.ps h2 with hne | hn
    · exact hne (hv.trans hp.symm)
    · rw [hn] at hv; cases hv
theorem DiskIs.blkFar (h : DiskIs w B L N E) {e : TypeId} {j : Nat} {cs : Array Value} (g : Blk w j e cs) (h1 : e ≠ 74) (h2 : e ≠ 80) : ¬ L.foot j := by
  rintro (e1 | e1 | e1 | hp)
  · exact g.ne_ h.fs.x h1 e1
  · exact blk_tree_ne g h.fs.f e1
  · exact blk_tree_ne g h.fs.s e1
  · exact own_blk_ne h.ps g (fun e => h2 e.symm) hp
theorem DocIs.far (g : DocIs w B' G K kv nv wv left kev D) (h : DiskIs w B L N E) (ht : Turns w w' L.foot) : DocIs w' B' G K kv nv wv left kev D :=
  ⟨(ht.block G g.x.lt (h.blkFar g.x (by decide) (by decide))).trans g.x, row_turns g.k ht (h.rowFar g.k (by decide) (by decide)), row_turns g.n ht (h.rowFar g.n (by decide) (by decide)), row_turns g.p ht (h.rowFar g.p (by decide) (by decide)), g.a, g.lo⟩
theorem DiskIs.farG (h : DiskIs w B L N E) (g : DocIs w B' G K kv nv wv left kev D) (ht : Turns w w' (fun k => k = G)) : DiskIs w' B L N E :=
  h.apart ht (fun k hk e => by subst e; exact h.blkFar g.x (by decide) (by decide) hk) (fun k hk e => own_blk_ne h.ks g.x (by decide) (by rw [hk, e]))
theorem DocIs.setQ (h : DocIs w B G K kv nv wv left kev D) (i : Int) : DocIs (w.setCell ⟨G, 3, none⟩ (.int .i64 i)) B G K kv nv wv left kev { D with q := i } :=
  ⟨by simpa using h.x.set_ 3 (.int .i64 i), row_far h.k h.x (by decide) 3 _, row_far h.n h.x (by decide) 3 _, row_far h.p h.x (by decide) 3 _, h.a, h.lo⟩
theorem DocIs.setNow (h : DocIs w B G K kv nv wv left kev D) (i : Int) : DocIs (w.setCell ⟨G, 4, none⟩ (.int .i64 i)) B G K kv nv wv left kev { D with now := i } :=
  ⟨by simpa using h.x.set_ 4 (.int .i64 i), row_far h.k h.x (by decide) 4 _, row_far h.n h.x (by decide) 4 _, row_far h.p h.x (by decide) 4 _, h.a, h.lo⟩
theorem DocIs.setOff (h : DocIs w B G K kv nv wv left kev D) (i : Bool) : DocIs (w.setCell ⟨G, 6, none⟩ (.bool i)) B G K kv nv wv left kev { D with off := i } :=
  ⟨by simpa using h.x.set_ 6 (.bool i), row_far h.k h.x (by decide) 6 _, row_far h.n h.x (by decide) 6 _, row_far h.p h.x (by decide) 6 _, h.a, h.lo⟩
end
/-- Both disks, with what they hold. -/
structure Pair (w0 w : World) (L : Loc) (G N : Nat) (kv nv wv kev : Value) (left : Int) (D : DK) : Prop where
  d : DiskIs w w0.heap.size L N D
  g : DocIs w w0.heap.size G (fun v l => Reads 1 cB w0 v l) kv nv wv left kev D
  b : Below w0.heap.size w0 w
section
variable {w0 w w' : World} {L L' : Loc} {G N N' : Nat} {kv nv wv kev : Value} {left : Int} {D D' : DK}
theorem Pair.below (h : Pair w0 w L G N kv nv wv kev left D) (hb : Below w.heap.size w w') : Pair w0 w' L G N kv nv wv kev left D := ⟨h.d.below hb, h.g.below hb, h.b.trans (hb.mono h.b.size)⟩
theorem Pair.alloc (h : Pair w0 w L G N kv nv wv kev left D) (o : Obj) : Pair w0 (w.alloc o) L G N kv nv wv kev left D := h.below ((Below.refl _ w).alloc (Nat.le_refl _) o)
theorem Pair.cellG (h : Pair w0 w L G N kv nv wv kev left D) (j : Nat) (u : Value) : Below w0.heap.size w0 (w.setCell ⟨G, j, none⟩ u) := h.b.setCell (p := ⟨G, j, none⟩) h.g.lo u
theorem Pair.b0 (h : Pair w0 w L G N kv nv wv kev left D) : w0.heap.size ≤ w.heap.size := h.b.size
theorem Turns.base {B : Nat} {X : Nat → Prop} (ht : Turns w w' X) (hx : ∀ k, X k → B ≤ k) (hB : B ≤ w.heap.size) : Below B w w' := ⟨ht.os, ht.tape, ht.output, ht.size, fun k hk => ht.block k (by omega) (fun h => by have := hx k h; omega)⟩
theorem Pair.disk (h : Pair w0 w L G N kv nv wv kev left D) (n : Next w L w' L') : DocIs w' w0.heap.size G (fun v l => Reads 1 cB w0 v l) kv nv wv left kev D ∧ Below w0.heap.size w0 w' := ⟨h.g.far h.d n.t, h.b.trans (n.below h.d h.b0)⟩
theorem Pair.doc (h : Pair w0 w L G N kv nv wv kev left D) (ht : Turns w w' (fun k => k = G)) : DiskIs w' w0.heap.size L N D ∧ Below w0.heap.size w0 w' := ⟨h.d.farG h.g ht, h.b.trans (ht.base (fun k e => by subst e; exact h.g.lo) h.b0)⟩
end
theorem Blk.turns {w w' : World} {X : Nat → Prop} {j : Nat} {e : TypeId} {cs : Array Value} (h : Blk w j e cs) (ht : Turns w w' X) (hx : ¬ X j) : Blk w' j e cs := (ht.block j h.lt hx).trans h
abbrev actC (k mode n : Int) (p q : ByteArray) (b ke : Value) : Array Value := #[.int .i64 k, .int .i64 mode, .int .i64 n, .string p, .string q, b, ke]
section
variable {w0 w : World} {L : Loc} {G N : Nat} {kv nv wv kev : Value} {left : Int} {D : DK}
set_option maxRecDepth 100000 in
set_option maxHeartbeats 4000000 in
theorem both_10 (h : Pair w0 w L G N kv nv wv kev left D) (mode n : Int) (p q : ByteArray) (Ab Ak : Option Addr) (nb cb nk ck : Nat) (h0 : 0 ≤ D.now) (h1 : D.now ≤ 1000000) :
    Calls Tryd.prog 14 #[.pointer (some ⟨L.F, 0, none⟩), .pointer (some ⟨G, 0, none⟩), .agg (actC 10 mode n p q (.slice Ab nb cb) (.slice Ak nk ck))] w fun e w' => e = .returned (.bool true) ∧ Pair w0 w' L G N kv nv wv kev left { D with now := D.now + 1 } := by
  have P1 := h.alloc (.cells (actC 10 mode n p q (.slice Ab nb cb) (.slice Ak nk ck)) 34)
  have TK := Lib.hid (tick_any P1.d.fs h0 (by omega))
  have d2 := P1.d.setNow (D.now + 1)
  have n2 := Next.cell (w.alloc (.cells (actC 10 mode n p q (.slice Ab nb cb) (.slice Ak nk ck)) 34)) L 4 (.int .i64 (D.now + 1))
  have g2 := (P1.disk n2).1
  have b2 := (P1.disk n2).2
  have c4 := g2.x.cell 4
  have f4 := g2.x.frozen 4
  have g3 := Lib.hid (g2.setNow (D.now + 1))
  have d3 := Lib.hid (d2.farG g2 (Turns.cell _ G 4 (.int .i64 (D.now + 1))))
  have b3 := Lib.hid (b2.setCell (p := ⟨G, 4, none⟩) g2.lo (.int .i64 (D.now + 1)))
  clear h P1 d2 n2 g2 b2
  go_enter Tryd.func14, Tryd.ntmps14
  go_wp2_with (go_at_call 21; go_loud (refine TK.out.mono ?_; rintro e w2 ⟨rfl, rfl⟩))
  go_ret
  exact ⟨rfl, d3.out, g3.out, b3.out⟩
set_option maxRecDepth 100000 in
set_option maxHeartbeats 4000000 in
theorem both_7 (h : Pair w0 w L G N kv nv wv kev left D) (mode n : Int) (p q : ByteArray) (Ab Ak : Option Addr) (nb cb nk ck : Nat) :
    Calls Tryd.prog 14 #[.pointer (some ⟨L.F, 0, none⟩), .pointer (some ⟨G, 0, none⟩), .agg (actC 7 mode n p q (.slice Ab nb cb) (.slice Ak nk ck))] w fun e w' => e = .returned (.bool true) ∧ Pair w0 w' L G N kv nv wv kev left { D with off := false } := by
  have P1 := h.alloc (.cells (actC 7 mode n p q (.slice Ab nb cb) (.slice Ak nk ck)) 34)
  have K1 := Blk.new w 34 (actC 7 mode n p q (.slice Ab nb cb) (.slice Ak nk ck))
  have TK := Lib.hid (on_any P1.d.fs)
  have d2 := P1.d.setOff false
  have n2 := Next.cell (w.alloc (.cells (actC 7 mode n p q (.slice Ab nb cb) (.slice Ak nk ck)) 34)) L 7 (.bool false)
  have g2 := (P1.disk n2).1
  have b2 := (P1.disk n2).2
  have c4 := g2.x.cell 6
  have f4 := g2.x.frozen 6
  have k2 := Blk.far K1 (p := ⟨L.F, 7, none⟩) (K1.ne_ P1.d.fs.x (by decide)) (.bool false)
  have k2c := k2.cell 2
  have g3 := Lib.hid (g2.setOff false)
  have d3 := Lib.hid (d2.farG g2 (Turns.cell _ G 6 (.bool false)))
  have b3 := Lib.hid (b2.setCell (p := ⟨G, 6, none⟩) g2.lo (.bool false))
  clear h P1 d2 n2 g2 b2 K1 k2
  go_enter Tryd.func14, Tryd.ntmps14
  go_wp2_with (go_at_call 18; refine TK.out.mono ?_; rintro e w2 ⟨rfl, rfl⟩)
  go_ret
  exact ⟨rfl, d3.out, g3.out, b3.out⟩
set_option maxRecDepth 100000 in
set_option maxHeartbeats 4000000 in
theorem both_11 (h : Pair w0 w L G N kv nv wv kev left D) (mode n : Int) (p q : ByteArray) (Ab Ak : Option Addr) (nb cb nk ck : Nat) :
    Calls Tryd.prog 14 #[.pointer (some ⟨L.F, 0, none⟩), .pointer (some ⟨G, 0, none⟩), .agg (actC 11 mode n p q (.slice Ab nb cb) (.slice Ak nk ck))] w fun e w' => e = .returned (.bool true) ∧ Pair w0 w' L G N kv nv wv kev left { D with q := n } := by
  have P1 := h.alloc (.cells (actC 11 mode n p q (.slice Ab nb cb) (.slice Ak nk ck)) 34)
  have K1 := Lib.hid (Blk.new w 34 (actC 11 mode n p q (.slice Ab nb cb) (.slice Ak nk ck)))
  have TK := Lib.hid (quota_any P1.d n)
  have HP := Lib.hid P1
  clear h P1
  go_enter Tryd.func14, Tryd.ntmps14
  go_wp2_with (go_at_call 53; refine TK.out.mono ?_; rintro e w2 ⟨rfl, d2, n2⟩; have GB := Lib.hid (HP.out.disk n2); have D2 := Lib.hid d2; have k2 := K1.out.turns n2.t (HP.out.d.blkFar K1.out (by decide) (by decide)); have k2c := k2.cell 2; have g3 := GB.out.1.x.cell 3; have f3 := GB.out.1.x.frozen 3; clear d2 n2 k2)
  go_ret
  exact ⟨rfl, D2.out.farG GB.out.1 (Turns.cell _ G 3 _), GB.out.1.setQ n, GB.out.2.setCell (p := ⟨G, 3, none⟩) GB.out.1.lo _⟩
end
end Go.Proofs.YtcnmlgmlijgmhaaDoor

namespace Go.Proofs.YtcnmlgmlijgmhaaDoor
open Go Go.RowKit Go.Shelf Go.Maps

theorem insT_len (x : ByteArray × FV) : ∀ T : Tr, (insT x T).length = T.length + 1
  | [] => rfl
  | y :: r => by
    unfold insT
    split
    · rfl
    · rw [List.length_cons, insT_len x r, List.length_cons]
theorem putT_len (T : Tr) (p : ByteArray) (f : FV) : (putT T p f).length ≤ T.length + 1 := by
  unfold putT
  rw [insT_len]
  have := delT_len T p
  omega
theorem doO_len (T : Tr) (o : Ov) : (doO T o).length ≤ T.length + 1 := by
  unfold doO
  have := delT_len T o.2.1
  split
  · omega
  · split
    · have := putT_len (delT T o.2.1) o.2.2.1 ((getT T o.2.1).getD noF); omega
    · exact putT_len _ _ _
theorem cutN_len (S : Tr) (ps : List Ov) (ks : List Bool) : ∀ i, (cutN S ps ks i).length ≤ S.length + (ps.take i).length
  | 0 => by simp [cutN]
  | i + 1 => by
    have ih := cutN_len S ps ks i
    unfold cutN
    cases h : ps[i]? with
    | none =>
      dsimp only
      have : ps.length ≤ i := List.getElem?_eq_none_iff.1 h
      rw [List.take_of_length_le (by omega)] at ih ⊢
      exact ih
    | some o =>
      have hlt := (List.getElem?_eq_some_iff.1 h).1
      have h1 : (ps.take (i + 1)).length = i + 1 := by rw [List.length_take]; omega
      have h2 : (ps.take i).length = i := by rw [List.length_take]; omega
      dsimp only
      have := doO_len (cutN S ps ks i) o
      split <;> omega
section
variable {w0 w : World} {L : Loc} {G N : Nat} {kv nv wv kev : Value} {left : Int} {D : DK}
set_option maxRecDepth 100000 in
theorem sync_no {w : World} {B N : Nat} {L : Loc} {D : DK} (h : DiskIs w B L N D) (ho : D.off = true) :
    Calls Tryd.prog 17 #[.pointer (some ⟨L.F, 0, none⟩)] w fun e w' => e = .returned (.int .i64 13) ∧ w = w' := by
  have c7 := h.fs.x.cell 7
  rw [ho] at c7
  clear h
  go_enter Tryd.func17, Tryd.ntmps17
  go_wp2
  go_ret
  exact ⟨rfl, rfl⟩
set_option maxRecDepth 100000 in
set_option maxHeartbeats 4000000 in
theorem both_4 (h : Pair w0 w L G N kv nv wv kev left D) (mode n : Int) (p q : ByteArray) (Ab Ak : Option Addr) (nb cb nk ck : Nat) :
    Calls Tryd.prog 14 #[.pointer (some ⟨L.F, 0, none⟩), .pointer (some ⟨G, 0, none⟩), .agg (actC 4 mode n p q (.slice Ab nb cb) (.slice Ak nk ck))] w fun e w' => ∃ L' kv' nv' wv', e = .returned (.bool true) ∧ Pair w0 w' L' G N kv' nv' wv' kev left (if D.off then D else { D with S := D.T, ps := [] }) ∧ L'.F = L.F := by
  have P1 := h.alloc (.cells (actC 4 mode n p q (.slice Ab nb cb) (.slice Ak nk ck)) 34)
  have HP := Lib.hid P1
  cases ho : D.off with
  | true =>
    have TK := Lib.hid (sync_no P1.d ho)
    have c6 := P1.g.x.cell 6
    rw [ho] at c6
    clear h P1 ho
    rw [if_pos rfl]
    go_enter Tryd.func14, Tryd.ntmps14
    go_wp2_with (go_at_call 17; refine TK.out.mono ?_; rintro e w2 ⟨rfl, rfl⟩)
    go_ret
    exact ⟨L, kv, nv, wv, rfl, HP.out, rfl⟩
  | false =>
    have TK := Lib.hid (sync_on P1.d ho P1.b0)
    have HO := Lib.hid ho
    clear h P1 ho
    rw [if_neg (by decide)]
    go_enter Tryd.func14, Tryd.ntmps14
    go_wp2_with (first
      | (go_at_call 17; refine TK.out.mono ?_; rintro e w2 ⟨L', rfl, d2, n2⟩; have GB := Lib.hid (HP.out.disk n2); have D2 := Lib.hid d2; have HF := Lib.hid n2.F; have c6 := GB.out.1.x.cell 6; rw [HO.out] at c6; have DS := Lib.hid (dsync_any GB.out.1); clear d2 n2)
      | (go_at_call 48; refine DS.out.mono ?_; rintro e w3 ⟨rfl, g3, t3⟩; have G3 := Lib.hid g3; have D3 := Lib.hid (D2.out.farG GB.out.1 t3); have B3 := Lib.hid (GB.out.2.trans (t3.base (fun k e => by subst e; exact GB.out.1.lo) GB.out.2.size)); clear g3 t3))
    go_ret
    have g4 := G3.out
    have d4 := D3.out
    rw [HO.out] at d4 g4
    exact ⟨L', _, _, _, rfl, ⟨d4, g4, B3.out⟩, HF.out⟩
set_option maxRecDepth 100000 in
set_option maxHeartbeats 4000000 in
theorem both_6 (h : Pair w0 w L G N kv nv wv kev left D) (mode n : Int) (p q : ByteArray) (Ab Ak : Option Addr) (nb cb ck : Nat) (ks : List Bool) (hk : Reads 1 cB w0 (.slice Ak ks.length ck) ks) (hN : N ≤ 1000000) (hS : D.S.length + D.ps.length ≤ 1000) (ho : ∀ o ∈ D.ps, okP o) :
    Calls Tryd.prog 14 #[.pointer (some ⟨L.F, 0, none⟩), .pointer (some ⟨G, 0, none⟩), .agg (actC 6 mode n p q (.slice Ab nb cb) (.slice Ak ks.length ck))] w fun e w' => ∃ L' kv', e = .returned (.bool true) ∧ Pair w0 w' L' G (N + D.ps.length) kv' kv' (.slice none 0 0) kev left (cutD D ks) ∧ L'.F = L.F := by
  have P1 := h.alloc (.cells (actC 6 mode n p q (.slice Ab nb cb) (.slice Ak ks.length ck)) 34)
  have K1 := Lib.hid (Blk.new w 34 (actC 6 mode n p q (.slice Ab nb cb) (.slice Ak ks.length ck)))
  have HP := Lib.hid P1
  have CT := Lib.hid (cut_any P1.d (.slice Ak ks.length ck) ks (fun w' hg => hk.below (P1.b.trans ((Turns.of_grown (X := fun k => k = L.bs) hg rfl).base (fun k e => by subst e; exact P1.d.lo.2.2) P1.b0))) hN (by omega) P1.b0)
  have PW := Lib.hid (fun W (g : DocIs W w0.heap.size G (fun v l => Reads 1 cB w0 v l) kv nv wv left kev D) (b : Below w0.heap.size w0 W) => power_any (K := fun v l => Reads 1 cB w0 v l) g.b (.slice Ak ks.length ck) ks (fun w' ht => hk.below (b.trans (ht.base (fun k e => by subst e; exact g.lo) b.size))) b.size (by omega) (fun i => by have := cutN_len D.S D.ps ks i; rw [List.length_take] at this; omega) P1.d.sS ho)
  clear h P1 hk hN hS ho
  go_enter Tryd.func14, Tryd.ntmps14
  go_wp2_with (first
    | (go_at_call 13; refine CT.out.mono ?_; rintro e w2 ⟨L', rfl, d2, n2⟩; have GB := Lib.hid (HP.out.disk n2); have D2 := Lib.hid d2; have HF := Lib.hid n2.F; have k2 := K1.out.turns n2.t (HP.out.d.blkFar K1.out (by decide) (by decide)); have k2c := k2.cell 6; have DS := Lib.hid (PW.out w2 GB.out.1 GB.out.2); clear d2 n2 k2)
    | (go_at_call 49; refine DS.out.mono ?_; rintro e w3 ⟨kv', rfl, g3, t3⟩; have G3 := Lib.hid g3; have D3 := Lib.hid (D2.out.farG GB.out.1 t3); have B3 := Lib.hid (GB.out.2.trans (t3.base (fun k e => by subst e; exact GB.out.1.lo) GB.out.2.size)); clear g3 t3))
  go_ret
  exact ⟨L', kv', rfl, ⟨D3.out, G3.out, B3.out⟩, HF.out⟩
end
end Go.Proofs.YtcnmlgmlijgmhaaDoor

namespace Go.Proofs.YtcnmlgmlijgmhaaDoor
open Go Go.RowKit Go.Shelf Go.Maps

theorem idx_sign (T : Tr) (p : ByteArray) : (getT T p).isSome = decide (0 ≤ idxV T p) := by
  rcases idx_cases T p with ⟨i, f, _, h1, h2⟩ | ⟨h1, h2⟩
  · rw [h1, h2]
    exact (decide_eq_true (Int.natCast_nonneg _)).symm
  · rw [h1, h2]; rfl
section
variable {w0 w : World} {L : Loc} {G N : Nat} {kv nv wv kev : Value} {left : Int} {D : DK}
/-- An op done on the document's disk, whatever is armed. -/
theorem ddo_any {B : Nat} {K : Value → List Bool → Prop} (h : DocIs w B G K kv nv wv left kev D) (o : Ov) (ha : 0 ≤ D.armed ∧ D.armed ≤ 9223372036854775807) (hr : refO D.T o = 0) (hB : B ≤ w.heap.size) (hK : ∀ v l, K v l → ∀ w', Turns w w' (fun k => k = G) → Reads 1 cB w' v l) (hp : D.ps.length ≤ 1000) (hl : D.T.length ≤ 1000) (hc : D.S.length + D.ps.length ≤ 1000) (hT : Short D.T) (hS : Short D.S) (hok : okP o) (hos : ∀ o ∈ D.ps, okP o) (o0 : 0 ≤ D.ops) (o1 : D.ops ≤ 1000000) :
    Calls Tryd.prog 42 #[.pointer (some ⟨G, 0, none⟩), .agg (aD (od o))] w fun e w' => ∃ kv' nv' wv' left' kev', e = .returned (.int .i64 (stepE D)) ∧ DocIs w' B G K kv' nv' wv' left' kev' (stepD D o D.ino) ∧ Turns w w' (fun k => k = G) := by
  unfold stepE stepD
  by_cases h1 : D.armed = 1
  · rw [if_pos h1, if_pos h1]
    exact (ddo_down h h1 (od o) hK hB hp (fun i => by have := cutN_len D.S D.ps D.ks i; rw [List.length_take] at this; omega) hS hos).mono (fun e w' ⟨kv', left', kev', he, hd, ht⟩ => ⟨kv', kv', _, left', kev', he, hd, ht⟩)
  · rw [if_neg h1, if_neg h1]
    by_cases h0 : D.armed = 0
    · exact (ddo_upn h o h0 hr hB hp hl hT hok o0 o1).mono (fun e w' ⟨nv', wv', left', he, hd, ht⟩ => ⟨kv, nv', wv', left', kev, he, by simpa [h0] using hd, ht⟩)
    · exact (ddo_upa h o (by omega) ha.2 hr hB hp hl hT hok o0 o1).mono (fun e w' ⟨nv', wv', left', he, hd, ht⟩ => ⟨kv, nv', wv', left', kev, he, by simpa [h0] using hd, ht⟩)
end
end Go.Proofs.YtcnmlgmlijgmhaaDoor

namespace Go.Proofs.YtcnmlgmlijgmhaaDoor
open Go Go.RowKit Go.Shelf Go.Maps

/-- The bounds that a play keeps. -/
structure Fit (D : DK) : Prop where
  ha : 0 ≤ D.armed ∧ D.armed ≤ 9223372036854775807
  hl : D.T.length ≤ 1000
  hc : D.S.length + D.ps.length ≤ 1000
  hn : 0 ≤ D.now ∧ D.now ≤ 1000000
  hi : 0 ≤ D.ino ∧ D.ino ≤ 1000000
  ho : 0 ≤ D.ops ∧ D.ops ≤ 1000000
  ok : ∀ o ∈ D.ps, okP o
  us : usedV D.T ≤ 1000000000
section
variable {w0 w : World} {L : Loc} {G N : Nat} {kv nv wv kev : Value} {left : Int} {D : DK}
theorem keep_base {w0 w : World} {G : Nat} (hG : w0.heap.size ≤ G) (b : Below w0.heap.size w0 w) : ∀ v l, Reads 1 cB w0 v l → ∀ w', Turns w w' (fun k => k = G) → Reads 1 cB w' v l :=
  fun v l h w' ht => h.below (b.trans (ht.base (fun k e => by subst e; exact hG) b.size))
set_option maxRecDepth 100000 in
set_option maxHeartbeats 8000000 in
theorem both_3 (h : Pair w0 w L G N kv nv wv kev left D) (F : Fit D) (mode n : Int) (p q : ByteArray) (Ab Ak : Option Addr) (nb cb nk ck : Nat) (hp : p.size ≤ 1000) (hN : N ≤ 1000000) :
    Calls Tryd.prog 14 #[.pointer (some ⟨L.F, 0, none⟩), .pointer (some ⟨G, 0, none⟩), .agg (actC 3 mode n p q (.slice Ab nb cb) (.slice Ak nk ck))] w fun e w' => ∃ L' kv' nv' wv' kev' left', e = .returned (.bool true) ∧ Pair w0 w' L' G (N + D.ps.length + 1) kv' nv' wv' kev' left' (remD D p) ∧ L'.F = L.F := by
  have P1 := h.alloc (.cells (actC 3 mode n p q (.slice Ab nb cb) (.slice Ak nk ck)) 34)
  have HP := Lib.hid P1
  have K1 := Lib.hid (Blk.new w 34 (actC 3 mode n p q (.slice Ab nb cb) (.slice Ak nk ck)))
  have TK := Lib.hid (remove_any P1.d p hp F.ha hN (by have := F.hc; omega) P1.b0 F.hi.1 F.hi.2 F.ho.1 F.ho.2)
  obtain ⟨An, cn, rfl⟩ := own_form P1.g.n
  have HF := Lib.hid F
  have HS := Lib.hid (And.intro P1.d.sT P1.d.sS)
  have GT := Lib.hid (fun W (g : DocIs W w0.heap.size G (fun v l => Reads 1 cB w0 v l) kv (.slice An D.T.length cn) wv left kev D) => get_any W (.slice An D.T.length cn) D.T p (OOwn.reads g.n) (by have := HF.out.hl; omega))
  have IS := idx_sign D.T p
  obtain ⟨x, hx⟩ : ∃ x, x = idxV D.T p := ⟨_, rfl⟩
  rw [← hx] at GT IS
  cases ho : D.off with
  | true =>
    have HO := Lib.hid ho
    have hE : remE D p = 13 := by unfold remE refR; rw [ho]; rfl
    have hD : remD D p = D := by unfold remD refR; rw [ho]; rfl
    rw [hE, hD] at TK
    rw [hD]
    clear h P1 hE hD ho F hp hN IS hx
    go_enter Tryd.func14, Tryd.ntmps14
    go_wp2_with (first
      | (go_at_call 47; refine TK.out.mono ?_; rintro e w2 ⟨L', rfl, d2, n2⟩; have GB := Lib.hid (HP.out.disk n2); have D2 := Lib.hid d2; have HF2 := Lib.hid n2.F; have k2 := K1.out.turns n2.t (HP.out.d.blkFar K1.out (by decide) (by decide)); have k2c := k2.cell 3; have c6 := GB.out.1.x.cell 6; rw [HO.out] at c6; have c1 := GB.out.1.x.cell 1; have GN := Lib.hid (fun n => And.intro (GB.out.1.below (below_drewE (Below.refl w2.heap.size w2) n)) (GB.out.2.trans ((below_drewE (Below.refl w2.heap.size w2) n).mono GB.out.2.size))); have DN := Lib.hid (fun n => D2.out.below (below_drewE (Below.refl w2.heap.size w2) n)); clear d2 n2 k2)
      | (go_at_call 44; refine (GT.out _ GB.out.1).mono ?_; rintro e w2' ⟨rfl, rfl⟩)
      | (go_at_call 42; refine (DD.out _ GB.out.1 GB.out.2).mono ?_; rintro e w3 ⟨kv', nv', wv', left', kev', rfl, g3, t3⟩; have G3 := Lib.hid g3; have D3 := Lib.hid (D2.out.farG GB.out.1 t3); have B3 := Lib.hid (GB.out.2.trans (t3.base (fun k e => by subst e; exact GB.out.1.lo) GB.out.2.size)); clear g3 t3))
    go_ret
    exact ⟨L', _, _, _, _, _, rfl, ⟨D2.out, GB.out.1, GB.out.2⟩, HF2.out⟩
  | false =>
    have HO := Lib.hid ho
    cases hg : (getT D.T p).isSome with
    | false =>
      have hr : refR D (remOp p) = 5 := by
        unfold refR remOp
        rw [ho, if_neg (by decide), refO_del, hg]; rfl
      have hE : remE D p = 5 := by unfold remE; rw [hr]; rfl
      have hD : remD D p = D := by unfold remD; rw [hr]; rfl
      rw [hE, hD] at TK
      rw [hD]
      rw [hg] at IS
      have d1 : decide (x < 0) = true := decide_eq_true (by have := of_decide_eq_false IS.symm; omega)
      have d2 : x < 0 := of_decide_eq_true d1
      clear h P1 hE hD ho F hp hN IS hx hr hg
      go_enter Tryd.func14, Tryd.ntmps14
      go_upto_region 31 with (go_at_call 47; refine TK.out.mono ?_; rintro e w2 ⟨L', rfl, d2, n2⟩; have GB := Lib.hid (HP.out.disk n2); have D2 := Lib.hid d2; have HF2 := Lib.hid n2.F; have k2 := K1.out.turns n2.t (HP.out.d.blkFar K1.out (by decide) (by decide)); have k2c := k2.cell 3; have c6 := GB.out.1.x.cell 6; rw [HO.out] at c6; have c1 := GB.out.1.x.cell 1; have GN := Lib.hid (fun n => And.intro (GB.out.1.below (below_drewE (Below.refl w2.heap.size w2) n)) (GB.out.2.trans ((below_drewE (Below.refl w2.heap.size w2) n).mono GB.out.2.size))); have DN := Lib.hid (fun n => D2.out.below (below_drewE (Below.refl w2.heap.size w2) n)); clear d2 n2 k2)
      go_quiet ((go_at_call 44; exact Calls.quiet_of_same ((GT.out _ (GN.out _).1).mono (fun _ _ h => ⟨h.1, h.2.symm⟩))))
      go_wp2_with fail
      go_ret
      exact ⟨L', _, _, _, _, _, rfl, ⟨DN.out _, (GN.out _).1, (GN.out _).2⟩, HF2.out⟩
    | true =>
      have hr : refR D (remOp p) = 0 := by
        unfold refR remOp
        rw [ho, if_neg (by decide), refO_del, hg]; rfl
      have hr2 : refO D.T (remOp p) = 0 := by unfold remOp; rw [refO_del, hg]; rfl
      have hE : remE D p = stepE D := by unfold remE; rw [if_pos hr]
      have hD : remD D p = stepD D (remOp p) D.ino := by unfold remD; rw [if_pos hr]
      rw [hE, hD] at TK
      rw [hD]
      rw [hg] at IS
      have d1 : decide (x < 0) = false := decide_eq_false (by have := of_decide_eq_true IS.symm; omega)
      have d2 : 0 ≤ x := of_decide_eq_true IS.symm
      have hop : okP (remOp p) := ⟨⟨.inr (.inr rfl), hp, show (⟨#[]⟩ : ByteArray).size ≤ 1000 by decide⟩, ⟨fun e => absurd (show (2 : Int) = 0 from e) (by decide), fun e => absurd (show (2 : Int) = 1 from e) (by decide)⟩⟩
      have DD := Lib.hid (fun W (g : DocIs W w0.heap.size G (fun v l => Reads 1 cB w0 v l) kv (.slice An D.T.length cn) wv left kev D) (b : Below w0.heap.size w0 W) => (show Calls Tryd.prog 42 #[.pointer (some ⟨G, 0, none⟩), .agg #[.int .i64 3, .string ⟨#[]⟩, .string ⟨#[]⟩, .int .i64 0, .int .i64 0, .int .i64 0, .string p, .string ⟨#[]⟩]] W _ from
        ddo_any g (remOp p) HF.out.ha hr2 b.size (keep_base g.lo b) (by have := HF.out.hc; omega) HF.out.hl HF.out.hc HS.out.1 HS.out.2 hop HF.out.ok HF.out.ho.1 HF.out.ho.2))
      obtain ⟨se, hse⟩ : ∃ se, se = stepE D := ⟨_, rfl⟩
      rw [← hse] at TK DD
      clear h P1 hE hD ho F hp hN IS hx hr hr2 hg hop hse
      go_enter Tryd.func14, Tryd.ntmps14
      go_upto_region 31 with (go_at_call 47; refine TK.out.mono ?_; rintro e w2 ⟨L', rfl, d2, n2⟩; have GB := Lib.hid (HP.out.disk n2); have D2 := Lib.hid d2; have HF2 := Lib.hid n2.F; have k2 := K1.out.turns n2.t (HP.out.d.blkFar K1.out (by decide) (by decide)); have k2c := k2.cell 3; have c6 := GB.out.1.x.cell 6; rw [HO.out] at c6; have c1 := GB.out.1.x.cell 1; have GN := Lib.hid (fun n => And.intro (GB.out.1.below (below_drewE (Below.refl w2.heap.size w2) n)) (GB.out.2.trans ((below_drewE (Below.refl w2.heap.size w2) n).mono GB.out.2.size))); have DN := Lib.hid (fun n => D2.out.below (below_drewE (Below.refl w2.heap.size w2) n)); clear d2 n2 k2)
      go_quiet ((go_at_call 44; exact Calls.quiet_of_same ((GT.out _ (GN.out _).1).mono (fun _ _ h => ⟨h.1, h.2.symm⟩))))
      go_wp2_with (go_at_call 42; refine (DD.out _ (GN.out _).1 (GN.out _).2).mono ?_; rintro e w3 ⟨kv', nv', wv', left', kev', rfl, g3, t3⟩; have G3 := Lib.hid g3; have D3 := Lib.hid ((DN.out _).farG (GN.out _).1 t3); have B3 := Lib.hid ((GN.out _).2.trans (t3.base (fun k e => by subst e; exact (GN.out 0).1.lo) (GN.out _).2.size)); clear g3 t3)
      go_ret
      exact ⟨L', _, _, _, _, _, rfl, ⟨D3.out, G3.out, B3.out⟩, HF2.out⟩
end
end Go.Proofs.YtcnmlgmlijgmhaaDoor

namespace Go.Proofs.YtcnmlgmlijgmhaaDoor
open Go Go.RowKit Go.Shelf Go.Maps

theorem refO_ren {T : Tr} {fr p : ByteArray} {m t i : Int} {s : ByteArray} : refO T (1, fr, p, m, t, i, s) = if (getT T fr).isSome then (if chk p.data.toList = 0 then refV T fr p else chk p.data.toList) else 5 := rfl
/-- The program's disk has gone ahead, the document's is as it was. -/
structure Half (w0 w : World) (L : Loc) (G N : Nat) (kv nv wv kev : Value) (left : Int) (D' D : DK) : Prop where
  d : DiskIs w w0.heap.size L N D'
  g : DocIs w w0.heap.size G (fun v l => Reads 1 cB w0 v l) kv nv wv left kev D
  b : Below w0.heap.size w0 w
section
variable {w0 w w' : World} {L : Loc} {G N : Nat} {kv nv wv kev kv' nv' wv' kev' : Value} {left left' : Int} {D D' D2 : DK}
theorem Half.below (h : Half w0 w L G N kv nv wv kev left D' D) (hb : Below w.heap.size w w') : Half w0 w' L G N kv nv wv kev left D' D := ⟨h.d.below hb, h.g.below hb, h.b.trans (hb.mono h.b.size)⟩
theorem Half.drewN (h : Half w0 w L G N kv nv wv kev left D' D) (n : Nat) : Half w0 (w.drewN n) L G N kv nv wv kev left D' D := h.below (below_drewE (Below.refl _ w) n)
theorem Half.doc (h : Half w0 w L G N kv nv wv kev left D' D) (t : Turns w w' (fun k => k = G)) (g : DocIs w' w0.heap.size G (fun v l => Reads 1 cB w0 v l) kv' nv' wv' left' kev' D2) : Half w0 w' L G N kv' nv' wv' kev' left' D' D2 :=
  ⟨h.d.farG h.g t, g, h.b.trans (t.base (fun k e => by subst e; exact h.g.lo) h.b.size)⟩
end
section
variable {w0 w : World} {L : Loc} {G N : Nat} {kv nv wv kev : Value} {left : Int} {D : DK}
set_option maxRecDepth 100000 in
set_option maxHeartbeats 8000000 in
theorem both_2 (h : Pair w0 w L G N kv nv wv kev left D) (F : Fit D) (mode n : Int) (p q : ByteArray) (Ab Ak : Option Addr) (nb cb nk ck : Nat) (hp : p.size ≤ 1000) (hq : q.size ≤ 1000) (hN : N ≤ 1000000) :
    Calls Tryd.prog 14 #[.pointer (some ⟨L.F, 0, none⟩), .pointer (some ⟨G, 0, none⟩), .agg (actC 2 mode n p q (.slice Ab nb cb) (.slice Ak nk ck))] w fun e w' => ∃ L' kv' nv' wv' kev' left', e = .returned (.bool true) ∧ Pair w0 w' L' G (N + D.ps.length + 1) kv' nv' wv' kev' left' (renD D p q) ∧ L'.F = L.F := by
  have P1 := h.alloc (.cells (actC 2 mode n p q (.slice Ab nb cb) (.slice Ak nk ck)) 34)
  have HP := Lib.hid P1
  have K1 := Lib.hid (Blk.new w 34 (actC 2 mode n p q (.slice Ab nb cb) (.slice Ak nk ck)))
  have TK := Lib.hid (rename_any P1.d p q hp hq F.ha hN (by have := F.hc; omega) P1.b0 F.hi.1 F.hi.2 F.ho.1 F.ho.2)
  obtain ⟨An, cn, rfl⟩ := own_form P1.g.n
  have HF := Lib.hid F
  have HS := Lib.hid (And.intro P1.d.sT P1.d.sS)
  have GT := Lib.hid (fun W (g : DocIs W w0.heap.size G (fun v l => Reads 1 cB w0 v l) kv (.slice An D.T.length cn) wv left kev D) => get_any W (.slice An D.T.length cn) D.T p (OOwn.reads g.n) (by have := HF.out.hl; omega))
  have CL := Lib.hid (fun W (g : DocIs W w0.heap.size G (fun v l => Reads 1 cB w0 v l) kv (.slice An D.T.length cn) wv left kev D) => clash46_any W (.slice An D.T.length cn) D.T q p (OOwn.reads g.n) (by have := HF.out.hl; omega) HS.out.1 (by omega))
  have CK := Lib.hid (fun W => (show Calls Tryd.prog 45 #[.string q] W fun e w' => e = .returned (.int .i64 (chk q.data.toList)) ∧ Below W.heap.size W w' from refCheck_any q W (by omega)))
  have IS := idx_sign D.T p
  obtain ⟨x, hx⟩ : ∃ x, x = idxV D.T p := ⟨_, rfl⟩
  rw [← hx] at GT IS
  cases ho : D.off with
  | true =>
    have HO := Lib.hid ho
    have hE : renE D p q = 13 := by unfold renE refR; rw [ho]; rfl
    have hD : renD D p q = D := by unfold renD refR; rw [ho]; rfl
    rw [hE, hD] at TK
    rw [hD]
    clear h P1 hE hD ho F hp hq hN IS hx
    go_enter Tryd.func14, Tryd.ntmps14
    go_wp2_with (go_at_call 23; refine TK.out.mono ?_; rintro e w2 ⟨L', rfl, d2, n2⟩; have H2 := Lib.hid (Half.mk d2 (HP.out.disk n2).1 (HP.out.disk n2).2); have HF2 := Lib.hid n2.F; have K2 := Lib.hid (K1.out.turns n2.t (HP.out.d.blkFar K1.out (by decide) (by decide))); have k23 := K2.out.cell 3; have k24 := K2.out.cell 4; have c6 := H2.out.g.x.cell 6; rw [HO.out] at c6; have c1 := H2.out.g.x.cell 1; have HN := Lib.hid (fun n => H2.out.drewN n); clear d2 n2)
    go_ret
    exact ⟨L', _, _, _, _, _, rfl, ⟨H2.out.d, H2.out.g, H2.out.b⟩, HF2.out⟩
  | false =>
    have HO := Lib.hid ho
    cases hg : (getT D.T p).isSome with
    | false =>
      have hr : refR D (renOp p q) = 5 := by unfold refR renOp; rw [ho, if_neg (by decide), refO_ren, hg]; rfl
      have hE : renE D p q = 5 := by unfold renE; rw [hr]; rfl
      have hD : renD D p q = D := by unfold renD; rw [hr]; rfl
      rw [hE, hD] at TK
      rw [hD]
      rw [hg] at IS
      have d1 : decide (x < 0) = true := decide_eq_true (by have := of_decide_eq_false IS.symm; omega)
      have d2 : x < 0 := of_decide_eq_true d1
      clear h P1 hE hD ho F hp hq hN IS hx hr hg
      go_enter Tryd.func14, Tryd.ntmps14
      go_upto_region 16 with (go_at_call 23; refine TK.out.mono ?_; rintro e w2 ⟨L', rfl, d2, n2⟩; have H2 := Lib.hid (Half.mk d2 (HP.out.disk n2).1 (HP.out.disk n2).2); have HF2 := Lib.hid n2.F; have K2 := Lib.hid (K1.out.turns n2.t (HP.out.d.blkFar K1.out (by decide) (by decide))); have k23 := K2.out.cell 3; have k24 := K2.out.cell 4; have c6 := H2.out.g.x.cell 6; rw [HO.out] at c6; have c1 := H2.out.g.x.cell 1; have HN := Lib.hid (fun n => H2.out.drewN n); clear d2 n2)
      go_quiet ((go_at_call 44; exact Calls.quiet_of_same ((GT.out _ (HN.out _).g).mono (fun _ _ h => ⟨h.1, h.2.symm⟩))))
      go_wp2_with fail
      go_ret
      exact ⟨L', _, _, _, _, _, rfl, ⟨(HN.out _).d, (HN.out _).g, (HN.out _).b⟩, HF2.out⟩
    | true =>
      rw [hg] at IS
      have d1 : decide (x < 0) = false := decide_eq_false (by have := of_decide_eq_true IS.symm; omega)
      have d2 : 0 ≤ x := of_decide_eq_true IS.symm
      by_cases hc : chk q.data.toList = 0
      · rw [hc] at CK
        cases hw : D.T.any (badX p q) with
        | true =>
          have hr : refR D (renOp p q) = 11 := by unfold refR renOp; rw [ho, if_neg (by decide), refO_ren, hg, if_pos rfl, if_pos hc, refV_yes hw]
          have hE : renE D p q = 11 := by unfold renE; rw [hr]; rfl
          have hD : renD D p q = D := by unfold renD; rw [hr]; rfl
          rw [hE, hD] at TK
          rw [hD]
          rw [hw] at CL
          clear h P1 hE hD ho F hp hq hN IS hx hr hg hc hw
          go_enter Tryd.func14, Tryd.ntmps14
          go_upto_region 16 with (go_at_call 23; refine TK.out.mono ?_; rintro e w2 ⟨L', rfl, d2, n2⟩; have H2 := Lib.hid (Half.mk d2 (HP.out.disk n2).1 (HP.out.disk n2).2); have HF2 := Lib.hid n2.F; have K2 := Lib.hid (K1.out.turns n2.t (HP.out.d.blkFar K1.out (by decide) (by decide))); have k23 := K2.out.cell 3; have k24 := K2.out.cell 4; have c6 := H2.out.g.x.cell 6; rw [HO.out] at c6; have c1 := H2.out.g.x.cell 1; have HN := Lib.hid (fun n => H2.out.drewN n); clear d2 n2)
          go_quiet ((go_at_call 44; exact Calls.quiet_of_same ((GT.out _ (HN.out _).g).mono (fun _ _ h => ⟨h.1, h.2.symm⟩))))
          go_upto_region 20 with (go_at_call 45; refine (CK.out _).mono ?_; rintro e w3 ⟨rfl, b3⟩; have H3 := Lib.hid ((HN.out _).below b3); have K3 := Lib.hid ((K2.out.below (below_drewE (Below.refl w2.heap.size w2) _) K2.out.lt).below b3 K2.out.lt); have k33 := K3.out.cell 3; have k34 := K3.out.cell 4; have c31 := H3.out.g.x.cell 1; have HM := Lib.hid (fun n => H3.out.drewN n); clear b3 k23 k24 c6 c1)
          go_quiet ((go_at_call 46; exact Calls.quiet_of_same ((CL.out _ (HM.out _).g).mono (fun _ _ h => ⟨h.1, h.2.symm⟩))))
          go_wp2_with fail
          go_ret
          exact ⟨L', _, _, _, _, _, rfl, ⟨(HM.out _).d, (HM.out _).g, (HM.out _).b⟩, HF2.out⟩
        | false =>
          have hr : refR D (renOp p q) = 0 := by unfold refR renOp; rw [ho, if_neg (by decide), refO_ren, hg, if_pos rfl, if_pos hc, refV_no hw]
          have hr2 : refO D.T (renOp p q) = 0 := by unfold renOp; rw [refO_ren, hg, if_pos rfl, if_pos hc, refV_no hw]
          rw [hw] at CL
          by_cases hpq : p = q
          · have hE : renE D p q = 0 := by unfold renE; rw [if_pos hr, if_pos hpq]
            have hD : renD D p q = D := by unfold renD; rw [if_pos hr, if_pos hpq]
            rw [hE, hD] at TK
            rw [hD]
            have e1 : (p.toList == q.toList) = true := by rw [hpq]; exact beq_self_eq_true _
            clear h P1 hE hD ho F hp hq hN IS hx hr hr2 hg hc hw hpq
            go_enter Tryd.func14, Tryd.ntmps14
            go_upto_region 16 with (go_at_call 23; refine TK.out.mono ?_; rintro e w2 ⟨L', rfl, d2, n2⟩; have H2 := Lib.hid (Half.mk d2 (HP.out.disk n2).1 (HP.out.disk n2).2); have HF2 := Lib.hid n2.F; have K2 := Lib.hid (K1.out.turns n2.t (HP.out.d.blkFar K1.out (by decide) (by decide))); have k23 := K2.out.cell 3; have k24 := K2.out.cell 4; have c6 := H2.out.g.x.cell 6; rw [HO.out] at c6; have c1 := H2.out.g.x.cell 1; have HN := Lib.hid (fun n => H2.out.drewN n); clear d2 n2)
            go_quiet ((go_at_call 44; exact Calls.quiet_of_same ((GT.out _ (HN.out _).g).mono (fun _ _ h => ⟨h.1, h.2.symm⟩))))
            go_upto_region 20 with (go_at_call 45; refine (CK.out _).mono ?_; rintro e w3 ⟨rfl, b3⟩; have H3 := Lib.hid ((HN.out _).below b3); have K3 := Lib.hid ((K2.out.below (below_drewE (Below.refl w2.heap.size w2) _) K2.out.lt).below b3 K2.out.lt); have k33 := K3.out.cell 3; have k34 := K3.out.cell 4; have c31 := H3.out.g.x.cell 1; have HM := Lib.hid (fun n => H3.out.drewN n); clear b3 k23 k24 c6 c1)
            go_quiet ((go_at_call 46; exact Calls.quiet_of_same ((CL.out _ (HM.out _).g).mono (fun _ _ h => ⟨h.1, h.2.symm⟩))))
            go_wp2_with fail
            go_ret
            exact ⟨L', _, _, _, _, _, rfl, ⟨(HM.out _).d, (HM.out _).g, (HM.out _).b⟩, HF2.out⟩
          · have hE : renE D p q = stepE D := by unfold renE; rw [if_pos hr, if_neg hpq]
            have hD : renD D p q = stepD D (renOp p q) D.ino := by unfold renD; rw [if_pos hr, if_neg hpq]
            rw [hE, hD] at TK
            rw [hD]
            have e1 : (p.toList == q.toList) = false := ba_ne hpq
            have hop : okP (renOp p q) := ⟨⟨.inr (.inl rfl), hp, hq⟩, ⟨fun e => absurd (show (1 : Int) = 0 from e) (by decide), fun _ => hc⟩⟩
            have DD := Lib.hid (fun W (g : DocIs W w0.heap.size G (fun v l => Reads 1 cB w0 v l) kv (.slice An D.T.length cn) wv left kev D) (b : Below w0.heap.size w0 W) => (show Calls Tryd.prog 42 #[.pointer (some ⟨G, 0, none⟩), .agg #[.int .i64 2, .string ⟨#[]⟩, .string ⟨#[]⟩, .int .i64 0, .int .i64 0, .int .i64 0, .string p, .string q]] W _ from
              ddo_any g (renOp p q) HF.out.ha hr2 b.size (keep_base g.lo b) (by have := HF.out.hc; omega) HF.out.hl HF.out.hc HS.out.1 HS.out.2 hop HF.out.ok HF.out.ho.1 HF.out.ho.2))
            obtain ⟨se, hse⟩ : ∃ se, se = stepE D := ⟨_, rfl⟩
            rw [← hse] at TK DD
            clear h P1 hE hD ho F hp hq hN IS hx hr hr2 hg hc hw hpq hop hse
            go_enter Tryd.func14, Tryd.ntmps14
            go_upto_region 16 with (go_at_call 23; refine TK.out.mono ?_; rintro e w2 ⟨L', rfl, d2, n2⟩; have H2 := Lib.hid (Half.mk d2 (HP.out.disk n2).1 (HP.out.disk n2).2); have HF2 := Lib.hid n2.F; have K2 := Lib.hid (K1.out.turns n2.t (HP.out.d.blkFar K1.out (by decide) (by decide))); have k23 := K2.out.cell 3; have k24 := K2.out.cell 4; have c6 := H2.out.g.x.cell 6; rw [HO.out] at c6; have c1 := H2.out.g.x.cell 1; have HN := Lib.hid (fun n => H2.out.drewN n); clear d2 n2)
            go_quiet ((go_at_call 44; exact Calls.quiet_of_same ((GT.out _ (HN.out _).g).mono (fun _ _ h => ⟨h.1, h.2.symm⟩))))
            go_upto_region 20 with (go_at_call 45; refine (CK.out _).mono ?_; rintro e w3 ⟨rfl, b3⟩; have H3 := Lib.hid ((HN.out _).below b3); have K3 := Lib.hid ((K2.out.below (below_drewE (Below.refl w2.heap.size w2) _) K2.out.lt).below b3 K2.out.lt); have k33 := K3.out.cell 3; have k34 := K3.out.cell 4; have c31 := H3.out.g.x.cell 1; have HM := Lib.hid (fun n => H3.out.drewN n); clear b3 k23 k24 c6 c1)
            go_quiet ((go_at_call 46; exact Calls.quiet_of_same ((CL.out _ (HM.out _).g).mono (fun _ _ h => ⟨h.1, h.2.symm⟩))))
            go_wp2_with (go_at_call 42; refine (DD.out _ (HM.out _).g (HM.out _).b).mono ?_; rintro e w4 ⟨kv', nv', wv', left', kev', rfl, g4, t4⟩; have H4 := Lib.hid ((HM.out _).doc t4 g4); clear g4 t4)
            go_ret
            exact ⟨L', _, _, _, _, _, rfl, ⟨H4.out.d, H4.out.g, H4.out.b⟩, HF2.out⟩
      · have hr : refR D (renOp p q) = chk q.data.toList := by unfold refR renOp; rw [ho, if_neg (by decide), refO_ren, hg, if_pos rfl, if_neg hc]
        have hE : renE D p q = chk q.data.toList := by unfold renE; rw [hr, if_neg hc]
        have hD : renD D p q = D := by unfold renD; rw [hr, if_neg hc]
        rw [hE, hD] at TK
        rw [hD]
        obtain ⟨c, hcc⟩ : ∃ c, c = chk q.data.toList := ⟨_, rfl⟩
        rw [← hcc] at TK CK hc
        have hv0 : (c != 0) = true := by simpa using hc
        clear h P1 hE hD ho F hp hq hN IS hx hr hg hcc
        go_enter Tryd.func14, Tryd.ntmps14
        go_upto_region 16 with (go_at_call 23; refine TK.out.mono ?_; rintro e w2 ⟨L', rfl, d2, n2⟩; have H2 := Lib.hid (Half.mk d2 (HP.out.disk n2).1 (HP.out.disk n2).2); have HF2 := Lib.hid n2.F; have K2 := Lib.hid (K1.out.turns n2.t (HP.out.d.blkFar K1.out (by decide) (by decide))); have k23 := K2.out.cell 3; have k24 := K2.out.cell 4; have c6 := H2.out.g.x.cell 6; rw [HO.out] at c6; have c1 := H2.out.g.x.cell 1; have HN := Lib.hid (fun n => H2.out.drewN n); clear d2 n2)
        go_quiet ((go_at_call 44; exact Calls.quiet_of_same ((GT.out _ (HN.out _).g).mono (fun _ _ h => ⟨h.1, h.2.symm⟩))))
        go_upto_region 19 with (go_at_call 45; refine (CK.out _).mono ?_; rintro e w3 ⟨rfl, b3⟩; have H3 := Lib.hid ((HN.out _).below b3); have K3 := Lib.hid ((K2.out.below (below_drewE (Below.refl w2.heap.size w2) _) K2.out.lt).below b3 K2.out.lt); have k33 := K3.out.cell 3; have k34 := K3.out.cell 4; have c31 := H3.out.g.x.cell 1; have HM := Lib.hid (fun n => H3.out.drewN n); clear b3 k23 k24 c6 c1)
        go_wp2_with (go_at_call 45; refine (CK.out _).mono ?_; rintro e w4 ⟨rfl, b4⟩; have H4 := Lib.hid (H3.out.below b4); clear b4)
        go_ret
        exact ⟨L', _, _, _, _, _, rfl, ⟨H4.out.d, H4.out.g, H4.out.b⟩, HF2.out⟩
end
end Go.Proofs.YtcnmlgmlijgmhaaDoor

namespace Go.Proofs.YtcnmlgmlijgmhaaDoor
open Go Go.RowKit Go.Shelf Go.Maps

theorem ref_of_full {D : DK} {p : ByteArray} {mode : Int} {s : ByteArray} (h : refF D p mode s.size = 0) : refO D.T (wrO D p mode s) = 0 := by
  have hb : D.T.any (badX e0 p) = false := by
    by_cases ho : D.off = true
    · rw [refF_off ho] at h; cases h
    · have ho' : D.off = false := by simpa using ho
      by_cases hc : chk p.data.toList = 0
      · by_cases hn : 65536 < s.size
        · rw [refF_long ho' hc hn] at h; cases h
        · by_cases hm : mode ≠ 1 ∧ mode ≠ 2
          · rw [refF_mode ho' hc hn hm] at h; cases h
          · cases hw : D.T.any (badX e0 p) with
            | false => rfl
            | true => rw [refF_way ho' hc hn hm hw] at h; cases h
      · rw [refF_chk ho' hc] at h; exact absurd h hc
  unfold wrO
  rw [refO_put, refV_no hb]
section
variable {w0 w : World} {L : Loc} {G N : Nat} {kv nv wv kev : Value} {left : Int} {D : DK}
set_option maxRecDepth 100000 in
set_option maxHeartbeats 8000000 in
theorem both_1 (h : Pair w0 w L G N kv nv wv kev left D) (F : Fit D) (mode n : Int) (p q : ByteArray) (s : ByteArray) (Ab Ak : Option Addr) (cb nk ck : Nat) (hv : ∀ W, Below w0.heap.size w0 W → (convert 32 9 (.slice Ab s.size cb)).run Tryd.prog W = .ok (.string s) W) (hs : s.size ≤ 1000000000) (hp : p.size ≤ 1000) (hN : N ≤ 1000000) :
    Calls Tryd.prog 14 #[.pointer (some ⟨L.F, 0, none⟩), .pointer (some ⟨G, 0, none⟩), .agg (actC 1 mode n p q (.slice Ab s.size cb) (.slice Ak nk ck))] w fun e w' => ∃ L' kv' nv' wv' kev' left', e = .returned (.bool true) ∧ Pair w0 w' L' G (N + D.ps.length + 1) kv' nv' wv' kev' left' (wrD D p mode s) ∧ L'.F = L.F := by
  have P1 := h.alloc (.cells (actC 1 mode n p q (.slice Ab s.size cb) (.slice Ak nk ck)) 34)
  have HP := Lib.hid P1
  have K1 := Lib.hid (Blk.new w 34 (actC 1 mode n p q (.slice Ab s.size cb) (.slice Ak nk ck)))
  have BI : BytesIn (w.alloc (.cells (actC 1 mode n p q (.slice Ab s.size cb) (.slice Ak nk ck)) 34)) L.foot (.slice Ab s.size cb) s := ⟨⟨_, _, rfl⟩, fun w' ht => hv w' (P1.b.trans (ht.base (fun k hf => P1.d.foot_lo k hf) P1.b0))⟩
  have TK := Lib.hid (write_any P1.d p mode (.slice Ab s.size cb) s BI hs F.us F.ha hp hN (by have := F.hc; omega) P1.b0 F.hi.1 F.hi.2 F.ho.1 F.ho.2)
  obtain ⟨An, cn, rfl⟩ := own_form P1.g.n
  have HF := Lib.hid F
  have HS := Lib.hid (And.intro P1.d.sT P1.d.sS)
  have HV := Lib.hid hv
  have hvs := hs
  have CA := Lib.hid (fun W (g : DocIs W w0.heap.size G (fun v l => Reads 1 cB w0 v l) kv (.slice An D.T.length cn) wv left kev D) => cause_any g p mode s.size HF.out.hl HF.out.us HS.out.1 hp hs)
  have FI := Lib.hid (fun W (g : DocIs W w0.heap.size G (fun v l => Reads 1 cB w0 v l) kv (.slice An D.T.length cn) wv left kev D) => (show Calls Tryd.prog 43 #[.pointer (some ⟨G, 0, none⟩), .string p, .int .i64 mode, .string s] W fun e w' => e = .returned (.agg #[.string p, .string s, .int .i64 mode, .int .i64 D.now, .int .i64 (inoOf D.T p D.ino)]) ∧ DocIs w' w0.heap.size G (fun v l => Reads 1 cB w0 v l) kv (.slice An D.T.length cn) wv left kev { D with ino := inoNew D.T p D.ino } ∧ Turns W w' (fun k => k = G) from file_any g p mode s HF.out.hl HF.out.hi.1 HF.out.hi.2))
  unfold wrD wrE at TK
  unfold wrD
  have hwo := fun (h0 : refF D p mode s.size = 0) => ref_of_full h0
  obtain ⟨r, hr⟩ : ∃ r, r = refF D p mode s.size := ⟨_, rfl⟩
  rw [← hr] at TK CA hwo ⊢
  by_cases hr0 : r = 0
  · subst hr0
    rw [if_pos rfl, if_pos rfl] at TK
    rw [if_pos rfl]
    have hr2 : refO D.T (wrO D p mode s) = 0 := hwo rfl
    have hop : okP (wrO D p mode s) := ⟨⟨.inl rfl, show (⟨#[]⟩ : ByteArray).size ≤ 1000 by decide, hp⟩, ⟨fun _ => rfl, fun e => absurd (show (0 : Int) = 1 from e) (by decide)⟩⟩
    have DD := Lib.hid (fun W (g : DocIs W w0.heap.size G (fun v l => Reads 1 cB w0 v l) kv (.slice An D.T.length cn) wv left kev { D with ino := inoNew D.T p D.ino }) (b : Below w0.heap.size w0 W) => (show Calls Tryd.prog 42 #[.pointer (some ⟨G, 0, none⟩), .agg #[.int .i64 1, .string p, .string s, .int .i64 mode, .int .i64 D.now, .int .i64 (inoOf D.T p D.ino), .string ⟨#[]⟩, .string ⟨#[]⟩]] W fun e w' => ∃ kv' nv' wv' left' kev', e = .returned (.int .i64 (stepE { D with ino := inoNew D.T p D.ino })) ∧ DocIs w' w0.heap.size G (fun v l => Reads 1 cB w0 v l) kv' nv' wv' left' kev' (stepD { D with ino := inoNew D.T p D.ino } (wrO D p mode s) (inoNew D.T p D.ino)) ∧ Turns W w' (fun k => k = G) from
      ddo_any g (wrO D p mode s) HF.out.ha hr2 b.size (keep_base g.lo b) (by have := HF.out.hc; dsimp only; omega) HF.out.hl HF.out.hc HS.out.1 HS.out.2 hop HF.out.ok HF.out.ho.1 HF.out.ho.2))
    by_cases ha : D.armed = 1
    · have hE : stepE D = 13 := by unfold stepE; rw [if_pos ha]
      have hE1 : stepE { D with ino := inoNew D.T p D.ino } = 13 := by unfold stepE; rw [if_pos ha]
      have hD : stepD D (wrO D p mode s) (inoNew D.T p D.ino) = cutD D D.ks := by unfold stepD; rw [if_pos ha]
      have hD1 : stepD { D with ino := inoNew D.T p D.ino } (wrO D p mode s) (inoNew D.T p D.ino) = { cutD D D.ks with ino := inoNew D.T p D.ino } := by unfold stepD; rw [if_pos ha]; rfl
      rw [hE, hD] at TK
      rw [hE1, hD1] at DD
      rw [hD]
      obtain ⟨i1, hi1⟩ : ∃ i1, i1 = inoOf D.T p D.ino := ⟨_, rfl⟩
      obtain ⟨i2, hi2⟩ : ∃ i1, i1 = inoNew D.T p D.ino := ⟨_, rfl⟩
      rw [← hi2] at DD FI
      rw [← hi1] at DD FI
      clear h P1 F BI hs hp hN hr hi1 hi2 hr2 hop hwo hE hE1 hD hD1 ha
      go_enter Tryd.func14, Tryd.ntmps14
      go_wp2_with (first
        | (go_at_call 16; refine TK.out.mono ?_; rintro e w2 ⟨L', rfl, d2, n2⟩; have H2 := Lib.hid (Half.mk d2 (HP.out.disk n2).1 (HP.out.disk n2).2); have HF2 := Lib.hid n2.F; have K2 := Lib.hid (K1.out.turns n2.t (HP.out.d.blkFar K1.out (by decide) (by decide))); have k21 := K2.out.cell 1; have k23 := K2.out.cell 3; have k25 := K2.out.cell 5; clear d2 n2)
        | (go_at_call 41; refine (CA.out _ H2.out.g).mono ?_; rintro e w3 ⟨rfl, b3⟩; have H3 := Lib.hid (H2.out.below b3); have K3 := Lib.hid (K2.out.below b3 K2.out.lt); have k31 := K3.out.cell 1; have k33 := K3.out.cell 3; have k35 := K3.out.cell 5; have c31 := H3.out.g.x.cell 1; have c35 := H3.out.g.x.cell 5; have V3 := hv _ H3.out.b; clear b3 k21 k23 k25)
        | (go_at_call 43; refine (FI.out _ H3.out.g).mono ?_; rintro e w5 ⟨rfl, g5, t5⟩; have H5 := Lib.hid (H3.out.doc t5 g5); clear g5 t5 k31 k33 k35 c31 c35 V3)
        | (go_at_call 42; refine (DD.out _ H5.out.g H5.out.b).mono ?_; rintro e w6 ⟨kv', nv', wv', left', kev', rfl, g6, t6⟩; have H6 := Lib.hid (H5.out.doc t6 g6); have f65 := H6.out.g.x.frozen 5; have c65 := H6.out.g.x.cell 5; clear g6 t6))
      go_ret
      have H7 := H6.out.doc (Turns.cell _ G 5 (.int .i64 D.ino)) (H6.out.g.setIno D.ino)
      exact ⟨L', _, _, _, _, _, rfl, ⟨H7.d, H7.g, H7.b⟩, HF2.out⟩
    · have hE : stepE D = 0 := by unfold stepE; rw [if_neg ha]
      have hE1 : stepE { D with ino := inoNew D.T p D.ino } = 0 := by unfold stepE; rw [if_neg ha]
      have hD1 : stepD { D with ino := inoNew D.T p D.ino } (wrO D p mode s) (inoNew D.T p D.ino) = stepD D (wrO D p mode s) (inoNew D.T p D.ino) := by unfold stepD; rw [if_neg ha, if_neg ha]
      rw [hE] at TK
      rw [hE1, hD1] at DD
      obtain ⟨i1, hi1⟩ : ∃ i1, i1 = inoOf D.T p D.ino := ⟨_, rfl⟩
      obtain ⟨D9, hD9⟩ : ∃ D9, D9 = stepD D (wrO D p mode s) (inoNew D.T p D.ino) := ⟨_, rfl⟩
      rw [← hD9] at TK DD ⊢
      rw [← hi1] at DD FI
      clear h P1 F BI hs hp hN hr hi1 hr2 hop hwo hE hE1 hD1 ha hD9
      go_enter Tryd.func14, Tryd.ntmps14
      go_wp2_with (first
        | (go_at_call 16; refine TK.out.mono ?_; rintro e w2 ⟨L', rfl, d2, n2⟩; have H2 := Lib.hid (Half.mk d2 (HP.out.disk n2).1 (HP.out.disk n2).2); have HF2 := Lib.hid n2.F; have K2 := Lib.hid (K1.out.turns n2.t (HP.out.d.blkFar K1.out (by decide) (by decide))); have k21 := K2.out.cell 1; have k23 := K2.out.cell 3; have k25 := K2.out.cell 5; clear d2 n2)
        | (go_at_call 41; refine (CA.out _ H2.out.g).mono ?_; rintro e w3 ⟨rfl, b3⟩; have H3 := Lib.hid (H2.out.below b3); have K3 := Lib.hid (K2.out.below b3 K2.out.lt); have k31 := K3.out.cell 1; have k33 := K3.out.cell 3; have k35 := K3.out.cell 5; have c31 := H3.out.g.x.cell 1; have c35 := H3.out.g.x.cell 5; have V3 := hv _ H3.out.b; clear b3 k21 k23 k25)
        | (go_at_call 43; refine (FI.out _ H3.out.g).mono ?_; rintro e w5 ⟨rfl, g5, t5⟩; have H5 := Lib.hid (H3.out.doc t5 g5); clear g5 t5 k31 k33 k35 c31 c35 V3)
        | (go_at_call 42; refine (DD.out _ H5.out.g H5.out.b).mono ?_; rintro e w6 ⟨kv', nv', wv', left', kev', rfl, g6, t6⟩; have H6 := Lib.hid (H5.out.doc t6 g6); clear g6 t6))
      go_ret
      exact ⟨L', _, _, _, _, _, rfl, ⟨H6.out.d, H6.out.g, H6.out.b⟩, HF2.out⟩
  · rw [if_neg hr0, if_neg hr0] at TK
    rw [if_neg hr0]
    have hv0 : (r == 0) = false := by simpa using hr0
    clear h P1 F BI hs hp hN hr hwo
    go_enter Tryd.func14, Tryd.ntmps14
    go_wp2_with (first
      | (go_at_call 16; refine TK.out.mono ?_; rintro e w2 ⟨L', rfl, d2, n2⟩; have H2 := Lib.hid (Half.mk d2 (HP.out.disk n2).1 (HP.out.disk n2).2); have HF2 := Lib.hid n2.F; have K2 := Lib.hid (K1.out.turns n2.t (HP.out.d.blkFar K1.out (by decide) (by decide))); have k21 := K2.out.cell 1; have k23 := K2.out.cell 3; have k25 := K2.out.cell 5; clear d2 n2)
      | (go_at_call 41; refine (CA.out _ H2.out.g).mono ?_; rintro e w3 ⟨rfl, b3⟩; have H3 := Lib.hid (H2.out.below b3); have K3 := Lib.hid (K2.out.below b3 K2.out.lt); have k31 := K3.out.cell 1; have k33 := K3.out.cell 3; have k35 := K3.out.cell 5; have c31 := H3.out.g.x.cell 1; have c35 := H3.out.g.x.cell 5; have V3 := hv _ H3.out.b; clear b3 k21 k23 k25))
    go_ret
    exact ⟨L', _, _, _, _, _, rfl, ⟨H3.out.d, H3.out.g, H3.out.b⟩, HF2.out⟩
end
end Go.Proofs.YtcnmlgmlijgmhaaDoor

namespace Go.Proofs.YtcnmlgmlijgmhaaDoor
open Go Go.RowKit Go.Shelf Go.Maps

/-! ### Order -/
theorem bytesBefore_cmp : ∀ a b : List UInt8, bytesBefore a b = decide (Lib.compareBytes a b < 0)
  | [], [] => rfl
  | [], _ :: _ => rfl
  | _ :: _, [] => rfl
  | x :: a, y :: b => by
    have ih := bytesBefore_cmp a b
    unfold bytesBefore Lib.compareBytes
    by_cases h1 : x < y
    · simp [h1]
    · by_cases h2 : y < x
      · have hne : x ≠ y := fun e => by subst e; exact h1 h2
        simp [h1, h2, hne]
      · have hxy : x = y := UInt8.le_antisymm (UInt8.not_lt.1 h2) (UInt8.not_lt.1 h1)
        subst hxy
        simp [h1, ih]
theorem before_kS (a b : ByteArray) : (kS a).before (kS b) = decide (cb a b < 0) := bytesBefore_cmp _ _
/-- A tree rises. -/
def Asc (T : Tr) : Prop := T.Pairwise fun x y => cb x.1 y.1 < 0
theorem Asc.nil : Asc [] := List.Pairwise.nil
theorem Asc.del {T : Tr} (h : Asc T) (p : ByteArray) : Asc (delT T p) := h.sublist List.filter_sublist
theorem insT_mem {x y : ByteArray × FV} : ∀ {T : Tr}, y ∈ insT x T → y = x ∨ y ∈ T
  | [], h => by simp [insT] at h; exact .inl h
  | z :: T, h => by
    unfold insT at h
    split at h
    · rcases List.mem_cons.1 h with h | h
      · exact .inl h
      · exact .inr h
    · rcases List.mem_cons.1 h with h | h
      · exact .inr (by rw [h]; exact List.mem_cons_self ..)
      · rcases insT_mem h with h | h
        · exact .inl h
        · exact .inr (List.mem_cons_of_mem _ h)
theorem Asc.ins {x : ByteArray × FV} : ∀ {T : Tr}, Asc T → (∀ y ∈ T, y.1 ≠ x.1) → Asc (insT x T)
  | [], _, _ => List.pairwise_singleton _ _
  | z :: T, h, hx => by
    obtain ⟨h1, h2⟩ := List.pairwise_cons.1 h
    unfold insT
    split
    · rename_i hb
      rw [before_kS, decide_eq_true_iff] at hb
      refine List.pairwise_cons.2 ⟨fun y hy => ?_, h⟩
      rcases List.mem_cons.1 hy with rfl | hy
      · exact hb
      · exact cb_trans hb (h1 y hy)
    · rename_i hb
      rw [before_kS, decide_eq_true_iff] at hb
      have hz : cb z.1 x.1 < 0 := by
        have hne := hx z (List.mem_cons_self ..)
        have e := cb_swap x.1 z.1
        by_cases h0 : cb x.1 z.1 = 0
        · exact absurd (cb_zero h0).symm hne
        · omega
      refine List.pairwise_cons.2 ⟨fun y hy => ?_, Asc.ins h2 fun y hy => hx y (List.mem_cons_of_mem _ hy)⟩
      rcases insT_mem hy with rfl | hy
      · exact hz
      · exact h1 y hy
theorem delT_neq {T : Tr} {p : ByteArray} {y : ByteArray × FV} (h : y ∈ delT T p) : y.1 ≠ p := by
  have := (List.mem_filter.1 h).2
  simpa using this
theorem Asc.put {T : Tr} (h : Asc T) (p : ByteArray) (f : FV) : Asc (putT T p f) := (h.del p).ins fun _ hy => delT_neq hy
theorem Asc.do_ {T : Tr} (h : Asc T) (o : Ov) : Asc (doO T o) := by
  unfold doO
  split
  · exact h.del _
  · split
    · exact (h.del _).put _ _
    · exact h.put _ _
theorem Asc.cut {S : Tr} (h : Asc S) (ps : List Ov) (ks : List Bool) : ∀ i, Asc (cutN S ps ks i)
  | 0 => h
  | i + 1 => by
    have ih := Asc.cut h ps ks i
    unfold cutN
    split
    · split
      · exact ih.do_ _
      · exact ih
    · exact ih
theorem Asc.names {T : Tr} (h : Asc T) : namesV T = T.map (·.1) := by
  have hs : srt (T.map fun x => bsOf x.1) = T.map fun x => bsOf x.1 := by
    refine List.Perm.eq_of_pairwise (le := fun x y => ¬ Lib.compareBytes y x < 0) (fun x y _ _ h1 h2 => cmp_tot x y ?_ ?_) (srt_rises _) (List.pairwise_map.2 (h.imp fun {a b} hab => ?_)) (List.mergeSort_perm _ _)
    · rw [lt_dec]; exact decide_eq_false h2
    · rw [lt_dec]; exact decide_eq_false h1
    · have := cmp_swap (bsOf a.1) (bsOf b.1)
      have hab' : Lib.compareBytes (bsOf a.1) (bsOf b.1) < 0 := hab
      omega
  unfold namesV
  rw [hs, List.map_map]
  exact List.map_congr_left fun x _ => mkB_bsOf x.1

/-! ### Bytes -/
def Small (T : Tr) : Prop := ∀ x ∈ T, x.2.data.size ≤ 300
theorem Small.nil : Small [] := fun _ h => by cases h
theorem Small.del {T : Tr} (h : Small T) (p : ByteArray) : Small (delT T p) := fun x hx => h x (List.mem_filter.1 hx).1
theorem Small.put {T : Tr} (h : Small T) (p : ByteArray) {f : FV} (hf : f.data.size ≤ 300) : Small (putT T p f) := fun x hx => by
  rcases insT_mem hx with rfl | hx
  · exact hf
  · exact h.del p x hx
theorem Small.get {T : Tr} (h : Small T) (p : ByteArray) : ((getT T p).getD noF).data.size ≤ 300 := by
  unfold getT
  cases hf : T.find? fun x => decide (x.1 = p) with
  | none => exact (show (⟨#[]⟩ : ByteArray).size ≤ 300 by decide)
  | some x => exact h x (List.mem_of_find?_eq_some hf)
def smallO (o : Ov) : Prop := o.2.2.2.2.2.2.size ≤ 300
theorem Small.do_ {T : Tr} (h : Small T) {o : Ov} (ho : smallO o) : Small (doO T o) := by
  unfold doO
  split
  · exact h.del _
  · split
    · exact (h.del _).put _ (h.get _)
    · exact h.put _ ho
theorem Small.cut {S : Tr} (h : Small S) {ps : List Ov} (ho : ∀ o ∈ ps, smallO o) (ks : List Bool) : ∀ i, Small (cutN S ps ks i)
  | 0 => h
  | i + 1 => by
    have ih := Small.cut h ho ks i
    unfold cutN
    split
    · rename_i o hi
      split
      · exact ih.do_ (ho o (List.mem_of_getElem? hi))
      · exact ih
    · exact ih
theorem Small.used : ∀ {T : Tr}, Small T → usedV T ≤ 300 * T.length
  | [], _ => Nat.le_refl _
  | x :: T, h => by
    have h1 := h x (List.mem_cons_self ..)
    have h2 := Small.used (T := T) fun y hy => h y (List.mem_cons_of_mem _ hy)
    unfold usedV at h2 ⊢
    rw [List.map_cons, List.sum_cons, List.length_cons]
    omega

/-! ### What an act makes of a disk -/
structure Ac where
  op : Int
  mode : Int
  n : Int
  p : ByteArray
  q : ByteArray
  s : ByteArray
  ks : List Bool
structure Ac.Ok (a : Ac) : Prop where
  p : a.p.size ≤ 100
  q : a.q.size ≤ 100
  s : a.s.size ≤ 300
  k : a.ks.length ≤ 100
  n : a.n ≤ 9223372036854775807
def playD (D : DK) (a : Ac) : DK :=
  if a.op = 1 then wrD D a.p a.mode a.s
  else if a.op = 2 then renD D a.p a.q
  else if a.op = 3 then remD D a.p
  else if a.op = 4 then (if D.off then D else { D with S := D.T, ps := [] })
  else if a.op = 5 then { D with armed := (if a.n < 1 then 1 else a.n), ks := a.ks }
  else if a.op = 6 then cutD D a.ks
  else if a.op = 7 then { D with off := false }
  else if a.op = 8 then edD D a.p a.mode a.s
  else if a.op = 9 then ulD D a.p
  else if a.op = 10 then { D with now := D.now + 1 }
  else if a.op = 11 then { D with q := a.n }
  else D
/-- The bounds of a play of k acts. -/
structure Inv (k : Nat) (D : DK) : Prop where
  aT : Asc D.T
  aS : Asc D.S
  mT : Small D.T
  mS : Small D.S
  mP : ∀ o ∈ D.ps, smallO o
  lT : D.T.length ≤ k
  lS : D.S.length + D.ps.length ≤ k
  now : 0 ≤ D.now ∧ D.now ≤ k
  ino : 0 ≤ D.ino ∧ D.ino ≤ k
  ops : 0 ≤ D.ops ∧ D.ops ≤ k
  arm : 0 ≤ D.armed ∧ D.armed ≤ 9223372036854775807
  ok : ∀ o ∈ D.ps, okP o
  kl : D.ks.length ≤ 100
theorem Inv.start (q : Int) : Inv 0 (D0 q) := ⟨.nil, .nil, .nil, .nil, (fun _ h => by cases h), Nat.le_refl _, Nat.le_refl _, ⟨Int.le_refl _, Int.le_refl _⟩, ⟨Int.le_refl _, Int.le_refl _⟩, ⟨Int.le_refl _, Int.le_refl _⟩, ⟨Int.le_refl _, by show (0 : Int) ≤ 9223372036854775807; decide⟩, (fun _ h => by cases h), Nat.zero_le _⟩
theorem Inv.fit {k : Nat} {D : DK} (h : Inv k D) (hk : k ≤ 100) : Fit D := by
  have h1 := h.lT; have h2 := h.lS; have h3 := h.now; have h4 := h.ino; have h5 := h.ops; have h6 := h.mT.used
  exact ⟨h.arm, by omega, by omega, ⟨h3.1, by omega⟩, ⟨h4.1, by omega⟩, ⟨h5.1, by omega⟩, h.ok, by omega⟩
theorem Inv.mono {k : Nat} {D : DK} (h : Inv k D) : Inv (k + 1) D := by
  have h1 := h.lT; have h2 := h.lS; have h3 := h.now; have h4 := h.ino; have h5 := h.ops
  exact ⟨h.aT, h.aS, h.mT, h.mS, h.mP, by omega, by omega, ⟨h3.1, by omega⟩, ⟨h4.1, by omega⟩, ⟨h5.1, by omega⟩, h.arm, h.ok, h.kl⟩
theorem Inv.cut {k : Nat} {D : DK} (h : Inv k D) (ks : List Bool) : Inv k (cutD D ks) := by
  have hl := cutN_len D.S D.ps ks D.ps.length
  rw [List.take_length] at hl
  have h2 := h.lS
  exact ⟨h.aS.cut _ _ _, h.aS.cut _ _ _, h.mS.cut h.mP _ _, h.mS.cut h.mP _ _, (fun _ h => by cases h), Nat.le_trans hl h2, by show (cutN D.S D.ps ks D.ps.length).length + 0 ≤ k; omega, h.now, h.ino, h.ops, ⟨Int.le_refl _, by show (0 : Int) ≤ 9223372036854775807; decide⟩, (fun _ h => by cases h), Nat.zero_le _⟩
theorem Inv.step {k : Nat} {D : DK} (h : Inv k D) {o : Ov} (ho : okP o) (hs : smallO o) {i : Int} (hi : 0 ≤ i ∧ i ≤ k + 1) : Inv (k + 1) (stepD D o i) := by
  unfold stepD
  split
  · exact (h.cut _).mono
  · have hl := doO_len D.T o
    have h1 := h.lT; have h2 := h.lS; have h3 := h.now; have h5 := h.ops; have h6 := h.arm
    refine ⟨h.aT.do_ o, h.aS, h.mT.do_ hs, h.mS, fun x hx => ?_, by show (doO D.T o).length ≤ k + 1; omega, by show D.S.length + (D.ps ++ [o]).length ≤ k + 1; rw [List.length_append, List.length_singleton]; omega, ⟨h3.1, by show D.now ≤ ((k + 1 : Nat) : Int); omega⟩, ⟨hi.1, by show i ≤ ((k + 1 : Nat) : Int); omega⟩, ⟨by show 0 ≤ D.ops + 1; omega, by show D.ops + 1 ≤ ((k + 1 : Nat) : Int); omega⟩, ?_, fun x hx => ?_, h.kl⟩
    · rcases List.mem_append.1 hx with hx | hx
      · exact h.mP x hx
      · rw [List.mem_singleton.1 hx]; exact hs
    · show 0 ≤ (if D.armed = 0 then 0 else D.armed - 1) ∧ (if D.armed = 0 then 0 else D.armed - 1) ≤ 9223372036854775807
      split <;> omega
    · rcases List.mem_append.1 hx with hx | hx
      · exact h.ok x hx
      · rw [List.mem_singleton.1 hx]; exact ho
theorem Inv.inoNew {k : Nat} {D : DK} (h : Inv k D) (p : ByteArray) : 0 ≤ inoNew D.T p D.ino ∧ inoNew D.T p D.ino ≤ k + 1 := by
  have := h.ino
  unfold YtcnmlgmlijgmhaaDoor.inoNew
  split <;> omega
theorem refR_parts {D : DK} {o : Ov} (h : refR D o = 0) : D.off = false ∧ refO D.T o = 0 := by
  unfold refR at h
  cases ho : D.off with
  | true => rw [ho, if_pos rfl] at h; exact absurd h (by decide)
  | false => rw [ho] at h; exact ⟨rfl, h⟩
set_option maxHeartbeats 2000000 in
theorem Inv.play {k : Nat} {D : DK} {a : Ac} (h : Inv k D) (ha : a.Ok) : Inv (k + 1) (playD D a) := by
  have hp := ha.p
  have hq := ha.q
  have h1 := h.lT; have h2 := h.lS; have h3 := h.now; have h4 := h.ino; have h5 := h.ops
  unfold playD
  split
  · unfold wrD
    split
    · exact h.step (o := wrO D a.p a.mode a.s) ⟨⟨.inl rfl, (show (⟨#[]⟩ : ByteArray).size ≤ 1000 by decide), (by show a.p.size ≤ 1000; omega)⟩, ⟨fun _ => rfl, fun e => absurd (show (0 : Int) = 1 from e) (by decide)⟩⟩ ha.s (h.inoNew a.p)
    · exact h.mono
  split
  · unfold renD
    split
    · rename_i hr
      split
      · exact h.mono
      · obtain ⟨_, hr2⟩ := refR_parts hr
        have hc : chk a.q.data.toList = 0 := by
          unfold renOp at hr2
          rw [refO_ren] at hr2
          split at hr2
          · split at hr2
            · assumption
            · rename_i hne; exact absurd hr2 hne
          · exact absurd hr2 (by decide)
        exact h.step (o := renOp a.p a.q) ⟨⟨.inr (.inl rfl), (by show a.p.size ≤ 1000; omega), (by show a.q.size ≤ 1000; omega)⟩, ⟨fun e => absurd (show (1 : Int) = 0 from e) (by decide), fun _ => hc⟩⟩ (show (⟨#[]⟩ : ByteArray).size ≤ 300 by decide) ⟨h4.1, by omega⟩
    · exact h.mono
  split
  · unfold remD
    split
    · exact h.step (o := remOp a.p) ⟨⟨.inr (.inr rfl), (by show a.p.size ≤ 1000; omega), (show (⟨#[]⟩ : ByteArray).size ≤ 1000 by decide)⟩, ⟨fun e => absurd (show (2 : Int) = 0 from e) (by decide), fun e => absurd (show (2 : Int) = 1 from e) (by decide)⟩⟩ (show (⟨#[]⟩ : ByteArray).size ≤ 300 by decide) ⟨h4.1, by omega⟩
    · exact h.mono
  split
  · split
    · exact h.mono
    · exact Inv.mono ⟨h.aT, h.aT, h.mT, h.mT, (fun _ h => by cases h), h1, h1, h3, h4, h5, h.arm, (fun _ h => by cases h), h.kl⟩
  split
  · refine Inv.mono ⟨h.aT, h.aS, h.mT, h.mS, h.mP, h1, h2, h3, h4, h5, ?_, h.ok, ha.k⟩
    show 0 ≤ (if a.n < 1 then 1 else a.n) ∧ (if a.n < 1 then 1 else a.n) ≤ 9223372036854775807
    have := ha.n
    split <;> omega
  split
  · exact (h.cut _).mono
  split
  · exact Inv.mono ⟨h.aT, h.aS, h.mT, h.mS, h.mP, h1, h2, h3, h4, h5, h.arm, h.ok, h.kl⟩
  split
  · unfold edD
    split
    · have hl : (edT D a.p a.mode a.s).length ≤ k + 1 := by have := putT_len D.T a.p ⟨a.mode, D.now, inoOf D.T a.p D.ino, a.s⟩; unfold edT; omega
      have hA : Asc (edT D a.p a.mode a.s) := h.aT.put _ _
      have hM : Small (edT D a.p a.mode a.s) := h.mT.put _ ha.s
      exact ⟨hA, hA, hM, hM, (fun _ h => by cases h), hl, hl, ⟨h3.1, by show D.now ≤ ((k + 1 : Nat) : Int); omega⟩, ⟨(h.inoNew a.p).1, by have := (h.inoNew a.p).2; show YtcnmlgmlijgmhaaDoor.inoNew D.T a.p D.ino ≤ ((k + 1 : Nat) : Int); omega⟩, ⟨h5.1, by show D.ops ≤ ((k + 1 : Nat) : Int); omega⟩, h.arm, (fun _ h => by cases h), h.kl⟩
    · exact h.mono
  split
  · unfold ulD
    split
    · exact h.mono
    · split
      · have hl : (delT D.T a.p).length ≤ k := Nat.le_trans (List.length_filter_le _ _) h1
        exact Inv.mono ⟨h.aT.del _, h.aT.del _, h.mT.del _, h.mT.del _, (fun _ h => by cases h), hl, hl, h3, h4, h5, h.arm, (fun _ h => by cases h), h.kl⟩
      · exact h.mono
  split
  · exact ⟨h.aT, h.aS, h.mT, h.mS, h.mP, by show D.T.length ≤ k + 1; omega, by show D.S.length + D.ps.length ≤ k + 1; omega, ⟨by show 0 ≤ D.now + 1; omega, by show D.now + 1 ≤ ((k + 1 : Nat) : Int); omega⟩, ⟨h4.1, by show D.ino ≤ ((k + 1 : Nat) : Int); omega⟩, ⟨h5.1, by show D.ops ≤ ((k + 1 : Nat) : Int); omega⟩, h.arm, h.ok, h.kl⟩
  split
  · exact Inv.mono ⟨h.aT, h.aS, h.mT, h.mS, h.mP, h1, h2, h3, h4, h5, h.arm, h.ok, h.kl⟩
  · exact h.mono
end Go.Proofs.YtcnmlgmlijgmhaaDoor
