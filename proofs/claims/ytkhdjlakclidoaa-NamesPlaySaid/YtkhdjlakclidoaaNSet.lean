/-
  The methods of a table: New, Set, Delete, Swap, Attach, Detach, Move, Head, Row.
-/
import Derived.Test.YtkhdjlakclidoaaNGood
namespace Go.Proofs.Ytkhdjlakclidoaa
open Go.RowKit

/-- Only the table's block and its row's block may have turned. -/
structure Two (w w' : World) (T : Nat) (r : Option Nat) : Prop where
  os : w'.os = w.os
  tape : w'.tape = w.tape
  output : w'.output = w.output
  size : w.heap.size ≤ w'.heap.size
  block : ∀ k, k < w.heap.size → k ≠ T → some k ≠ r → w'.heap[k]? = w.heap[k]?
theorem Tab.alloc {w : World} {B T : Nat} {v : Value} {l : List Rf} {br : ByteArray} {d : Int} (h : Tab w B T v l br d) (o : Obj) : Tab (w.alloc o) B T v l br d :=
  h.below ((Below.refl _ _).alloc (Nat.le_refl _) _)
theorem Two.refl (w : World) (T : Nat) (r : Option Nat) : Two w w T r := ⟨rfl, rfl, rfl, Nat.le_refl _, fun _ _ _ _ => rfl⟩
theorem Two.of_below {w w' : World} (h : Below w.heap.size w w') (T : Nat) (r : Option Nat) : Two w w' T r := ⟨h.os, h.tape, h.output, h.size, fun k hk _ _ => h.block k hk⟩
theorem Two.of_grown {w w' : World} {r : Option Nat} (h : w.grownBy w' r) (T : Nat) : Two w w' T r := ⟨h.os, h.tape, h.output, h.size, fun k hk _ hr => h.block k hk hr⟩
theorem Two.trans {a b c : World} {T : Nat} {r r' : Option Nat} (h : Two a b T r) (k : Two b c T r') (hr : r' = r ∨ ∃ g, r' = some g ∧ a.heap.size ≤ g) : Two a c T r := by
  refine ⟨k.os.trans h.os, k.tape.trans h.tape, k.output.trans h.output, Nat.le_trans h.size k.size, fun i hi h1 h2 => ?_⟩
  refine (k.block i (Nat.lt_of_lt_of_le hi h.size) h1 ?_).trans (h.block i hi h1 h2)
  rcases hr with rfl | ⟨g, rfl, hg⟩
  · exact h2
  · intro e
    have := Option.some.inj e
    omega
theorem Two.set (w : World) (T p : Nat) (u : Value) (r : Option Nat) : Two w (w.setCell ⟨T, p, none⟩ u) T r :=
  ⟨rfl, rfl, rfl, by simp, fun k _ h _ => Below.heap_setCell _ _ _ _ h⟩
/-- Behind a base that lies below both. -/
theorem Two.below {w w' : World} {B T : Nat} {r : Option Nat} (h : Two w w' T r) (hT : B ≤ T) (hr : ∀ g, r = some g → B ≤ g) (hB : B ≤ w.heap.size) : Below B w w' :=
  ⟨h.os, h.tape, h.output, h.size, fun k hk => h.block k (Nat.lt_of_lt_of_le hk hB) (by omega) (fun e => by have := hr k e.symm; omega)⟩
theorem own_le_block {w : World} {B : Nat} {v : Value} {l : List Rf} (h : Own w B v l) : ∀ g, v.ownBlock = some g → B ≤ g := fun g hg => (World.ownsRow.lt h g hg).1

/-- What a call that may turn the table leaves: the answer, the table. -/
def Did (w : World) (B T : Nat) (v : Value) (c : Int) (l : List Rf) (br : ByteArray) (d : Int) (e : Ending) (w' : World) : Prop :=
  e = .returned (.int .i64 c) ∧ ∃ v', Tab w' B T v' l br d ∧ Two w w' T v.ownBlock ∧ Came w v v'
theorem Did.same {w : World} {B T : Nat} {v : Value} {c : Int} {l : List Rf} {br : ByteArray} {d : Int} {w' : World} (h : Tab w B T v l br d) (hb : Below w.heap.size w w') : Did w B T v c l br d (.returned (.int .i64 c)) w' :=
  ⟨rfl, v, h.below hb, Two.of_below hb _ _, .inl rfl⟩
theorem ret_i {a b : Int} (h : a = b) : Ending.returned (.int .i64 a) = .returned (.int .i64 b) := by rw [h]

theorem ce_set (l : List Rf) (k : Nat) (r : Rf) (c : Int) (h : l[k]? = some r) (j : Nat) : (ce (l.set k (r.1, c)))[j]? = if j = k * 2 + 1 then some (.int .i64 c) else (ce l)[j]? := by
  induction l generalizing k j with
  | nil => simp at h
  | cons x l ih =>
    cases k with
    | zero =>
      simp at h
      subst h
      rw [List.set_cons_zero, ce_cons, ce_cons]
      match j with
      | 0 => rfl
      | 1 => rfl
      | j + 2 => rw [if_neg (by omega)]; rfl
    | succ k =>
      rw [List.set_cons_succ, ce_cons, ce_cons]
      match j with
      | 0 => rw [if_neg (by omega)]; rfl
      | 1 => rw [if_neg (by omega)]; rfl
      | j + 2 =>
        have := ih k (by simpa using h) j
        rw [List.getElem?_cons_succ, List.getElem?_cons_succ, this, List.getElem?_cons_succ, List.getElem?_cons_succ]
        by_cases e : j = k * 2 + 1
        · rw [if_pos e, if_pos (by omega)]
        · rw [if_neg e, if_neg (by omega)]
theorem Own.setAt {w : World} {B g cap : Nat} {l : List Rf} (h : Own w B (.slice (some ⟨g, 0, none⟩) l.length cap) l) {k : Nat} {r : Rf} (hk : l[k]? = some r) (c : Int) :
    Own (w.setCell ⟨g, k * 2 + 1, none⟩ (.int .i64 c)) B (.slice (some ⟨g, 0, none⟩) l.length cap) (l.set k (r.1, c)) := by
  have hlt := (List.getElem?_eq_some_iff.1 hk).1
  rcases h.open_ with ⟨h, _⟩ | ⟨g', cap', cur, hv, hB, hb, hn, hmx, hs, hcs⟩
  · cases h
  injection hv with e1 e2 e3
  injection e1 with e1
  injection e1 with e1
  subst e1; subst e3
  have := Own.mk_ (l := l.set k (r.1, c)) hB (hb.set_ (k * 2 + 1) (.int .i64 c)) (by rw [Array.size_setIfInBounds]; exact hs) hmx (by rw [List.length_set]; exact hn) (fun j hj => by
    rw [List.length_set] at hj
    rw [ce_set l k r c hk]
    by_cases e : j = k * 2 + 1
    · subst e
      rw [if_pos rfl, Array.getElem?_setIfInBounds_self, if_pos (by omega)]
    · rw [if_neg e, Array.getElem?_setIfInBounds_ne (by omega), hcs j hj])
  rw [List.length_set] at this
  exact this

/-- Set's answer, and what it leaves. -/
def setC (l : List Rf) (s : ByteArray) (c : Int) : Int := if goodN s then (if c < 1 then 1 else if hasB l s then 0 else if 64 ≤ l.length then 4 else 0) else 5
def setL (l : List Rf) (s : ByteArray) (c : Int) : List Rf := if setC l s c = 0 then setR l s c else l

theorem set_many (l : List Rf) (s : ByteArray) (c : Int) (h : l.length ≤ 64) (h0 : setC l s c = 0) : (setR l s c).length ≤ 64 := by
  rw [setR_length]
  unfold setC at h0
  split
  · exact h
  · split at h0
    · split at h0
      · omega
      · simp_all
        omega
    · omega

set_option maxHeartbeats 4000000 in
theorem set_any (w : World) (B T : Nat) (v : Value) (l : List Rf) (br s : ByteArray) (d c : Int) (h : Tab w B T v l br d) (hs : s.size ≤ 1000000) (hc0 : -1000000000 ≤ c) (hc1 : c ≤ 1000000000) :
    Calls Try.prog 9 #[.pointer (some ⟨T, 0, none⟩), .string s, .int .i64 c] w (Did w B T v (setC l s c) (setL l s c) br d) := by
  have HT := Lib.hid h
  clear h
  have G := Lib.hid fun W => good_any s W hs
  cases hg : goodN s with
  | false =>
    rw [hg] at G
    have HC : Hid (setC l s c = 5) := by show setC l s c = 5; unfold setC; rw [hg]; rfl
    have HL : Hid (setL l s c = l) := by show setL l s c = l; unfold setL; rw [HC.out]; rfl
    clear hg
    go_enter Try.func9, Try.ntmps9
    go_wp2_with (go_at_call 22; refine (G.out _).mono ?_; rintro e w' ⟨rfl, rfl⟩)
    go_ret
    rw [HC.out, HL.out]
    exact Did.same HT.out (Below.refl _ _)
  | true =>
    rw [hg] at G
    have HG := Lib.hid hg
    clear hg
    by_cases h1 : c < 1
    · have HC : Hid (setC l s c = 1) := by show setC l s c = 1; unfold setC; rw [HG.out, if_pos rfl, if_pos h1]
      have HL : Hid (setL l s c = l) := by show setL l s c = l; unfold setL; rw [HC.out]; rfl
      go_enter Try.func9, Try.ntmps9
      go_wp2_with (go_at_call 22; refine (G.out _).mono ?_; rintro e w' ⟨rfl, rfl⟩)
      go_ret
      rw [HC.out, HL.out]
      exact Did.same HT.out (Below.refl _ _)
    · have h1' : (1 : Int) ≤ c := by omega
      have hfew := HT.out.few
      have hup := HT.out.up
      cases hh : hasB l s with
      | true =>
        obtain ⟨c0, hx⟩ := has_at hh
        have HC : Hid (setC l s c = 0) := by show setC l s c = 0; unfold setC; rw [HG.out, if_pos rfl, if_neg h1, hh]; rfl
        have HL : Hid (setL l s c = l.set (pos l s) (s, c)) := by show setL l s c = _; unfold setL; rw [HC.out, if_pos rfl]; unfold setR; rw [hh]; rfl
        have HU := Lib.hid (rising_set c hup hh)
        have hlt := has_lt hh
        have F := Lib.hid (find_is w B T v l br s d HT.out _ hh)
        have HX := Lib.hid hx
        clear hh hx hup
        generalize pos l s = k at *
        go_enter Try.func9, Try.ntmps9
        go_wp2_with (first
          | (go_at_call 22; refine (G.out _).mono ?_; rintro e w' ⟨rfl, rfl⟩)
          | (go_at_call 24; refine F.out.mono ?_; rintro e w1 ⟨rfl, hb1⟩; have T1 := HT.out.below hb1; obtain ⟨g, cap, rfl, x0, x1, g0, g1, hn, hmx, hg⟩ := Own.at_ T1.own HX.out; obtain ⟨c0, _, _, f0, _, _⟩ := T1.cells; have HT1 := Lib.hid T1; clear T1))
        go_ret
        have T1 := HT1.out
        have hne := T1.ne
        have hgT : T ≠ g := fun e => hne (by rw [e]; rfl)
        rw [HC.out, HL.out]
        exact ⟨rfl, _, ⟨T1.blk.far hgT _, Own.setAt T1.own HX.out c, T1.lo, by rw [List.length_set]; exact hfew, HU.out⟩,
          (Two.of_below hb1 T _).trans (Two.of_grown (grown_cell _ g _ _) T) (.inl rfl), .inl rfl⟩
      | false =>
        have F := Lib.hid (find_is w B T v l br s d HT.out _ hh)
        by_cases h64 : 64 ≤ l.length
        · have h64i : (64 : Int) ≤ (l.length : Int) := by omega
          have HC : Hid (setC l s c = 4) := by show setC l s c = 4; unfold setC; rw [HG.out, if_pos rfl, if_neg h1, hh, if_neg (by simp), if_pos h64]
          have HL : Hid (setL l s c = l) := by show setL l s c = _; unfold setL; rw [HC.out]; rfl
          clear hh hup
          generalize pos l s = k at *
          go_enter Try.func9, Try.ntmps9
          go_wp2_with (first
            | (go_at_call 22; refine (G.out _).mono ?_; rintro e w' ⟨rfl, rfl⟩)
            | (go_at_call 24; refine F.out.mono ?_; rintro e w1 ⟨rfl, hb1⟩; have T1 := HT.out.below hb1; obtain ⟨A, cap, rfl⟩ := own_form T1.own; obtain ⟨c0, _, _, f0, _, _⟩ := T1.cells; clear T1))
          go_ret
          rw [HC.out, HL.out]
          exact Did.same HT.out hb1
        · have h64i : ¬ (64 : Int) ≤ (l.length : Int) := by omega
          have HC : Hid (setC l s c = 0) := by show setC l s c = 0; unfold setC; rw [HG.out, if_pos rfl, if_neg h1, hh, if_neg (by simp), if_neg h64]
          have HL : Hid (setL l s c = insR l (pos l s) (s, c)) := by show setL l s c = _; unfold setL; rw [HC.out, if_pos rfl]; unfold setR; rw [hh]; rfl
          have HU := Lib.hid (rising_ins c hup hh)
          have hp := pos_le l s
          clear hh hup
          generalize pos l s = k at *
          go_enter Try.func9, Try.ntmps9
          go_wp2_with (first
            | (go_at_call 22; refine (G.out _).mono ?_; rintro e w' ⟨rfl, rfl⟩)
            | (go_at_call 24; refine F.out.mono ?_; rintro e w1 ⟨rfl, hb1⟩; have T1 := HT.out.below hb1; obtain ⟨A, cap, rfl⟩ := own_form T1.own; obtain ⟨c0, _, _, f0, _, _⟩ := T1.cells; have HT1 := Lib.hid T1; have hBw : B ≤ w1.heap.size := Nat.le_trans T1.lo (Nat.le_of_lt T1.blk.lt); clear T1))
          refine (insert_any _ B _ l (s, c) k w1.heap.size (HT1.out.alloc _).own hp (by omega) (Blk.new _ _ _) (fun e => by have := (World.ownsRow.lt HT1.out.own _ e).2; omega) (by simp; omega)).mono ?_
          rintro e w2 ⟨v', rfl, o2, g2, k2⟩
          obtain ⟨A2, cap2, rfl⟩ := own_form o2
          have b2 := (HT1.out.blk.alloc (.cells #[.string s, .int .i64 c] 43)).grown g2 (fun e => HT1.out.ne e.symm)
          have q2 := b2.cell 0
          have p2 := b2.frozen 0
          have Q2 : w2.cell? ⟨T, 0, none⟩ = some (.slice A l.length cap) := q2
          clear q2
          have B2 := Lib.hid b2
          clear b2
          go_wp2_with fail
          go_ret
          have T1 := HT1.out
          have hne2 : T ≠ w1.heap.size := by have := T1.blk.lt; omega
          rw [HC.out, HL.out]
          refine ⟨rfl, _, ⟨by simpa using B2.out.set_ 0 _, ?_, T1.lo, by rw [insR_length _ _ _ hp]; omega, HU.out⟩, ?_, ?_⟩
          · refine o2.kept (grown_cell w2 T 0 _) ?_
            exact .inr (own_blk_ne o2 B2.out (by decide))
          · have t1 := Two.of_below hb1 T (Value.slice A l.length cap).ownBlock
            have t2 := Two.of_below ((Below.refl w1.heap.size w1).alloc (Nat.le_refl _) (.cells #[.string s, .int .i64 c] 43)) T (Value.slice A l.length cap).ownBlock
            have t3 := Two.of_grown g2 T
            exact ((t1.trans t2 (.inl rfl)).trans t3 (.inl rfl)).trans (Two.set w2 T 0 _ _) (.inl rfl)
          · rcases k2 with e | ⟨g, e, hg⟩
            · exact .inl e
            · exact .inr ⟨g, e, by have := hb1.size; simp at hg; omega⟩
end Go.Proofs.Ytkhdjlakclidoaa
