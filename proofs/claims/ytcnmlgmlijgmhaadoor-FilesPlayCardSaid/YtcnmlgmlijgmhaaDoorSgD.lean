/-
  simfs: Rename, Remove; Stat of what is not there.
-/
import Derived.Test.YtcnmlgmlijgmhaaDoorSgA
namespace Go.Proofs.YtcnmlgmlijgmhaaDoor
open Go Go.RowKit Go.Shelf Go.Maps

/-- What a disk refuses an op with. -/
def refR (D : DK) (o : Ov) : Int := if D.off then 13 else refO D.T o
set_option maxRecDepth 100000 in
set_option maxHeartbeats 4000000 in
theorem refuses62_any {w : World} {B N : Nat} {L : Loc} {D : DK} (h : DiskIs w B L N D) (k : Int) (fr p : ByteArray) (m t i : Int) (s : ByteArray) (hfr : fr.size ≤ 1000) (hp : p.size ≤ 1000) (hk : k = 0 ∨ k = 1 ∨ k = 2) :
    Calls Tryd.prog 62 #[.pointer (some ⟨L.F, 0, none⟩), .agg (opC k fr p m t i s)] w fun e w' => e = .returned (.int .i64 (refR D (k, fr, p, m, t, i, s))) ∧ Below w.heap.size w w' := by
  have h1 := h.alloc (.cells (opC k fr p m t i s) 80)
  have K1 := Lib.hid (Blk.new w 80 (opC k fr p m t i s))
  have B1 := Lib.hid ((Below.refl w.heap.size w).alloc (Nat.le_refl _) (.cells (opC k fr p m t i s) 80))
  have c7 := h1.fs.x.cell 7
  have H1 := Lib.hid h1
  unfold refR
  cases ho : D.off with
  | true =>
    rw [ho] at c7
    clear h h1 ho
    go_enter Tryd.func62, Tryd.ntmps62
    go_wp2
    go_ret
    exact ⟨rfl, B1.out⟩
  | false =>
    rw [ho] at c7
    obtain ⟨r, hr⟩ : ∃ r, r = refO D.T (k, fr, p, m, t, i, s) := ⟨_, rfl⟩
    rw [show (if false = true then (13 : Int) else refO D.T (k, fr, p, m, t, i, s)) = r by rw [hr]; rfl]
    have RF := Lib.hid (show Calls Tryd.prog 39 #[.map (some L.bf), .agg (opC k fr p m t i s)] (w.alloc (.cells (opC k fr p m t i s) 80)).drew fun e w' => e = .returned (.int .i64 r) ∧ Below (w.alloc (.cells (opC k fr p m t i s) 80)).heap.size (w.alloc (.cells (opC k fr p m t i s) 80)).drew w' from by
      rw [hr]
      exact refuses_any _ L.bf N D.T (k, fr, p, m, t, i, s) (show TreeIs (w.alloc (.cells (opC k fr p m t i s) 80)).drew L.bf N D.T from h1.fs.f) (fun x hx => Nat.le_trans (h.sT x hx) (by omega)) (by dsimp only; unfold maxLen; omega) (by dsimp only; omega) hk)
    clear h h1 ho hr hfr hp hk
    go_enter Tryd.func62, Tryd.ntmps62
    go_upto_region 3 with fail
    generalize hW : w.alloc (.cells (opC k fr p m t i s) 80) = W1 at *
    obtain ⟨X, hX⟩ : ∃ X, X = w.heap.size := ⟨_, rfl⟩
    rw [← hX] at K1 ⊢
    clear hW hX c7
    have ZZ := Lib.hid fun W (h1 : W.cell? ⟨L.F, 0, none⟩ = some (.map (some L.bf))) (hx : Blk W X 80 (opC k fr p m t i s)) => (⟨h1, hx.cell 0, hx.cell 1, hx.cell 2, hx.cell 3, hx.cell 4, hx.cell 5, hx.cell 6⟩ : W.cell? ⟨L.F, 0, none⟩ = some (.map (some L.bf)) ∧ W.cell? ⟨X, 0, none⟩ = some (.int .i64 k) ∧ W.cell? ⟨X, 1, none⟩ = some (.string fr) ∧ W.cell? ⟨X, 2, none⟩ = some (.string p) ∧ W.cell? ⟨X, 3, none⟩ = some (.int .i64 m) ∧ W.cell? ⟨X, 4, none⟩ = some (.int .i64 t) ∧ W.cell? ⟨X, 5, none⟩ = some (.int .i64 i) ∧ W.cell? ⟨X, 6, none⟩ = some (.string s))
    have z0 := ZZ.out W1.drew (H1.out.fs.x.cell 0) K1.out
    go_region_held3 (fun w' => w'.cell? ⟨L.F, 0, none⟩ = some (.map (some L.bf)) ∧ w'.cell? ⟨X, 0, none⟩ = some (.int .i64 k) ∧ w'.cell? ⟨X, 1, none⟩ = some (.string fr) ∧ w'.cell? ⟨X, 2, none⟩ = some (.string p) ∧ w'.cell? ⟨X, 3, none⟩ = some (.int .i64 m) ∧ w'.cell? ⟨X, 4, none⟩ = some (.int .i64 t) ∧ w'.cell? ⟨X, 5, none⟩ = some (.int .i64 i) ∧ w'.cell? ⟨X, 6, none⟩ = some (.string s))
      (first | exact z0 | exact z6)
      ((go_at_call 39; (with_reducible refine RF.out.mono ?_); rintro e w6 ⟨rfl, b6⟩; have X6 : Blk w6 X 80 (opC k fr p m t i s) := (show Blk W1.drew X 80 _ from K1.out).below b6 K1.out.lt; have K6 := (show Blk W1.drew L.F 74 _ from H1.out.fs.x).below b6 H1.out.fs.x.lt; have z6 := ZZ.out w6 (K6.cell 0) X6))
    have HB := Lib.hid (show Below w.heap.size w w6 from (show Below w.heap.size w W1.drew from B1.out.drew).trans ⟨b6.os, b6.tape, b6.output, b6.size, fun j hj => b6.block j (by have := B1.out.size; omega)⟩)
    clear z0 z6 X6 K6 b6 RF
    go_wp2_with fail
    go_ret
    exact ⟨rfl, HB.out⟩

def renOp (a b : ByteArray) : Ov := (1, a, b, 0, 0, 0, ⟨#[]⟩)
def remOp (a : ByteArray) : Ov := (2, a, ⟨#[]⟩, 0, 0, 0, ⟨#[]⟩)
def renE (D : DK) (a b : ByteArray) : Int := if refR D (renOp a b) = 0 then (if a = b then 0 else stepE D) else refR D (renOp a b)
def renD (D : DK) (a b : ByteArray) : DK := if refR D (renOp a b) = 0 then (if a = b then D else stepD D (renOp a b) D.ino) else D
def remE (D : DK) (a : ByteArray) : Int := if refR D (remOp a) = 0 then stepE D else refR D (remOp a)
def remD (D : DK) (a : ByteArray) : DK := if refR D (remOp a) = 0 then stepD D (remOp a) D.ino else D
set_option maxRecDepth 100000 in
set_option maxHeartbeats 4000000 in
theorem rename_any {w : World} {B N : Nat} {L : Loc} {D : DK} (h : DiskIs w B L N D) (a b : ByteArray) (hfr : a.size ≤ 1000) (hpp : b.size ≤ 1000) (ha : 0 ≤ D.armed ∧ D.armed ≤ 9223372036854775807) (hN : N ≤ 1000000) (hp : D.ps.length ≤ 100000) (hB : B ≤ w.heap.size) (h0 : 0 ≤ D.ino) (h1 : D.ino ≤ 1000000) (o0 : 0 ≤ D.ops) (o1 : D.ops ≤ 1000000) :
    Calls Tryd.prog 23 #[.pointer (some ⟨L.F, 0, none⟩), .string a, .string b] w fun e w' => ∃ L', e = .returned (.int .i64 (renE D a b)) ∧ DiskIs w' B L' (N + D.ps.length + 1) (renD D a b) ∧ Next w L w' L' := by
  have hd := h.alloc (.cells (opC 1 a b 0 0 0 ⟨#[]⟩) 80)
  have K1 := Lib.hid (Blk.new w 80 (opC 1 a b 0 0 0 ⟨#[]⟩))
  have RF := Lib.hid (refuses62_any hd 1 a b 0 0 0 ⟨#[]⟩ hfr hpp (.inr (.inl rfl)))
  have HD := Lib.hid hd
  have B1 := Lib.hid ((Below.refl w.heap.size w).alloc (Nat.le_refl _) (.cells (opC 1 a b 0 0 0 ⟨#[]⟩) 80))
  have ST := Lib.hid (fun W (hb : Below (w.alloc (.cells (opC 1 a b 0 0 0 ⟨#[]⟩) 80)).heap.size (w.alloc (.cells (opC 1 a b 0 0 0 ⟨#[]⟩) 80)) W) => step_k (hd.below hb) 1 (.inl rfl) a b 0 0 0 ⟨#[]⟩ 0 (.slice none 0 0) ha hfr hpp hN hp (Nat.le_trans hB (Nat.le_trans (by simp) hb.size)) h0 h1 o0 o1)
  unfold renE renD
  obtain ⟨r, hr⟩ : ∃ r, r = refR D (renOp a b) := ⟨_, rfl⟩
  rw [show refR D (1, a, b, 0, 0, 0, ⟨#[]⟩) = r from hr.symm] at RF
  rw [← hr]
  clear h hd ha hN hp hB h0 h1 o0 o1 hr hfr hpp
  by_cases hr0 : r = 0
  · subst hr0
    rw [if_pos rfl, if_pos rfl]
    by_cases hab : a = b
    · rw [if_pos hab, if_pos hab]
      have hq : (a.toList == b.toList) = true := by rw [hab]; exact beq_self_eq_true _
      clear hab
      go_enter Tryd.func23, Tryd.ntmps23
      go_wp2_with (go_at_call 62; refine RF.out.mono ?_; rintro e w2 ⟨rfl, b2⟩; have B2 := Lib.hid b2; clear b2)
      go_ret
      exact ⟨L, rfl, (HD.out.below B2.out).mono (by omega), (Next.of_below L B1.out).trans (Next.of_below L B2.out)⟩
    · rw [if_neg hab, if_neg hab]
      have hq : (a.toList == b.toList) = false := by
        rw [beq_eq_false_iff_ne]
        exact fun e => hab (by rw [ByteArray.toList_eq, ByteArray.toList_eq] at e; exact bytes_ext e)
      clear hab
      go_enter Tryd.func23, Tryd.ntmps23
      go_wp2_with (first
        | (go_at_call 62; refine RF.out.mono ?_; rintro e w2 ⟨rfl, b2⟩; have B2 := Lib.hid b2; have K2 := K1.out.below b2 K1.out.lt; have k0 := K2.cell 0; have k1 := K2.cell 1; have k2 := K2.cell 2; have k3 := K2.cell 3; have k4 := K2.cell 4; have k5 := K2.cell 5; have k6 := K2.cell 6; clear b2 K2)
        | (go_at_call 56; refine (ST.out w2 B2.out).mono ?_; rintro e w3 ⟨L3, rfl, d3, n3⟩; have H3 := Lib.hid d3; have N3 := Lib.hid (((Next.of_below L B1.out).trans (Next.of_below L B2.out)).trans n3); clear d3 n3))
      go_ret
      exact ⟨L3, rfl, H3.out, N3.out⟩
  · rw [if_neg hr0, if_neg hr0]
    have hq : (r != 0) = true := by simpa using hr0
    clear hr0
    go_enter Tryd.func23, Tryd.ntmps23
    go_wp2_with (go_at_call 62; refine RF.out.mono ?_; rintro e w2 ⟨rfl, b2⟩; have B2 := Lib.hid b2; clear b2)
    go_ret
    exact ⟨L, rfl, (HD.out.below B2.out).mono (by omega), (Next.of_below L B1.out).trans (Next.of_below L B2.out)⟩
set_option maxRecDepth 100000 in
set_option maxHeartbeats 4000000 in
theorem remove_any {w : World} {B N : Nat} {L : Loc} {D : DK} (h : DiskIs w B L N D) (a : ByteArray) (hfr : a.size ≤ 1000) (ha : 0 ≤ D.armed ∧ D.armed ≤ 9223372036854775807) (hN : N ≤ 1000000) (hp : D.ps.length ≤ 100000) (hB : B ≤ w.heap.size) (h0 : 0 ≤ D.ino) (h1 : D.ino ≤ 1000000) (o0 : 0 ≤ D.ops) (o1 : D.ops ≤ 1000000) :
    Calls Tryd.prog 47 #[.pointer (some ⟨L.F, 0, none⟩), .string a] w fun e w' => ∃ L', e = .returned (.int .i64 (remE D a)) ∧ DiskIs w' B L' (N + D.ps.length + 1) (remD D a) ∧ Next w L w' L' := by
  have hd := h.alloc (.cells (opC 2 a ⟨#[]⟩ 0 0 0 ⟨#[]⟩) 80)
  have K1 := Lib.hid (Blk.new w 80 (opC 2 a ⟨#[]⟩ 0 0 0 ⟨#[]⟩))
  have RF := Lib.hid (refuses62_any hd 2 a ⟨#[]⟩ 0 0 0 ⟨#[]⟩ hfr (by decide) (.inr (.inr rfl)))
  have HD := Lib.hid hd
  have B1 := Lib.hid ((Below.refl w.heap.size w).alloc (Nat.le_refl _) (.cells (opC 2 a ⟨#[]⟩ 0 0 0 ⟨#[]⟩) 80))
  have ST := Lib.hid (fun W (hb : Below (w.alloc (.cells (opC 2 a ⟨#[]⟩ 0 0 0 ⟨#[]⟩) 80)).heap.size (w.alloc (.cells (opC 2 a ⟨#[]⟩ 0 0 0 ⟨#[]⟩) 80)) W) => step_k (hd.below hb) 2 (.inr rfl) a ⟨#[]⟩ 0 0 0 ⟨#[]⟩ 0 (.slice none 0 0) ha hfr (by decide) hN hp (Nat.le_trans hB (Nat.le_trans (by simp) hb.size)) h0 h1 o0 o1)
  unfold remE remD
  obtain ⟨r, hr⟩ : ∃ r, r = refR D (remOp a) := ⟨_, rfl⟩
  rw [show refR D (2, a, ⟨#[]⟩, 0, 0, 0, ⟨#[]⟩) = r from hr.symm] at RF
  rw [← hr]
  clear h hd ha hN hp hB h0 h1 o0 o1 hr hfr
  by_cases hr0 : r = 0
  · subst hr0
    rw [if_pos rfl, if_pos rfl]
    go_enter Tryd.func47, Tryd.ntmps47
    go_wp2_with (first
      | (go_at_call 62; refine RF.out.mono ?_; rintro e w2 ⟨rfl, b2⟩; have B2 := Lib.hid b2; have K2 := K1.out.below b2 K1.out.lt; have k0 := K2.cell 0; have k1 := K2.cell 1; have k2 := K2.cell 2; have k3 := K2.cell 3; have k4 := K2.cell 4; have k5 := K2.cell 5; have k6 := K2.cell 6; clear b2 K2)
      | (go_at_call 56; refine (ST.out w2 B2.out).mono ?_; rintro e w3 ⟨L3, rfl, d3, n3⟩; have H3 := Lib.hid d3; have N3 := Lib.hid (((Next.of_below L B1.out).trans (Next.of_below L B2.out)).trans n3); clear d3 n3))
    go_ret
    exact ⟨L3, rfl, H3.out, N3.out⟩
  · rw [if_neg hr0, if_neg hr0]
    have hq : (r != 0) = true := by simpa using hr0
    clear hr0
    go_enter Tryd.func47, Tryd.ntmps47
    go_wp2_with (go_at_call 62; refine RF.out.mono ?_; rintro e w2 ⟨rfl, b2⟩; have B2 := Lib.hid b2; clear b2)
    go_ret
    exact ⟨L, rfl, (HD.out.below B2.out).mono (by omega), (Next.of_below L B1.out).trans (Next.of_below L B2.out)⟩
end Go.Proofs.YtcnmlgmlijgmhaaDoor
