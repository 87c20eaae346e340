/-
  The methods of a table: New, Delete, Swap, Attach, Detach, Move, Head, Row.
-/
import Derived.Test.YtkhdjlakclidoaaNSet
namespace Go.Proofs.Ytkhdjlakclidoaa
open Go.RowKit

theorem bytes_eq {a b : ByteArray} (h : a.toList = b.toList) : a = b := by
  rw [ByteArray.toList_eq, ByteArray.toList_eq] at h
  obtain ⟨⟨a⟩⟩ := a
  obtain ⟨⟨b⟩⟩ := b
  simpa using h

def mainB : ByteArray := ⟨#[109, 97, 105, 110]⟩
theorem new_any (w : World) : Calls Try.prog 8 #[] w fun e w' => e = .returned (.pointer (some ⟨w.heap.size, 0, none⟩)) ∧ Tab w' w.heap.size w.heap.size (.slice none 0 0) [] mainB 0 ∧ Below w.heap.size w w' := by
  go_enter Try.func8, Try.ntmps8
  go_wp2
  go_ret
  exact ⟨rfl, ⟨by first | exact Blk.new _ _ _ | (simpa using (Blk.new w 53 #[.slice none 0 0, .string ⟨#[]⟩, .int .i64 0]).set_ 1 (.string mainB)), World.ownsRow_nil _ _ _ _, Nat.le_refl _, by simp, fun i j x y _ h => by simp at h⟩, by first | exact (Below.refl _ _).alloc (Nat.le_refl _) _ | exact ((Below.refl _ _).alloc (Nat.le_refl _) _).setCell (by simp) _⟩

def delC (l : List Rf) (s br : ByteArray) : Int := if hasB l s then (if s = br then 7 else 0) else 5
def delL (l : List Rf) (s br : ByteArray) : List Rf := if delC l s br = 0 then delR l (pos l s) else l
set_option maxHeartbeats 2000000 in
theorem del_any (w : World) (B T : Nat) (v : Value) (l : List Rf) (br s : ByteArray) (d : Int) (h : Tab w B T v l br d) :
    Calls Try.prog 11 #[.pointer (some ⟨T, 0, none⟩), .string s] w (Did w B T v (delC l s br) (delL l s br) br d) := by
  have HT := Lib.hid h
  clear h
  have hfew := HT.out.few
  have hup := HT.out.up
  cases hh : hasB l s with
  | false =>
    have F := Lib.hid (find_is w B T v l br s d HT.out _ hh)
    have HC : Hid (delC l s br = 5) := by show delC l s br = 5; unfold delC; rw [hh]; rfl
    have HL : Hid (delL l s br = l) := by show delL l s br = l; unfold delL; rw [HC.out]; rfl
    clear hh hup
    generalize pos l s = k at *
    go_enter Try.func11, Try.ntmps11
    go_wp2_with (go_at_call 24; refine F.out.mono ?_; rintro e w1 ⟨rfl, hb1⟩)
    go_ret
    rw [HC.out, HL.out]
    exact Did.same HT.out hb1
  | true =>
    have hlt := has_lt hh
    have F := Lib.hid (find_is w B T v l br s d HT.out _ hh)
    by_cases hs : s = br
    · subst hs
      have HC : Hid (delC l s s = 7) := by show delC l s s = 7; unfold delC; rw [hh, if_pos rfl, if_pos rfl]
      have HL : Hid (delL l s s = l) := by show delL l s s = l; unfold delL; rw [HC.out]; rfl
      clear hh hup
      generalize pos l s = k at *
      go_enter Try.func11, Try.ntmps11
      go_wp2_with (go_at_call 24; refine F.out.mono ?_; rintro e w1 ⟨rfl, hb1⟩; have T1 := HT.out.below hb1; obtain ⟨_, c1, _, _, f1, _⟩ := T1.cells; clear T1)
      go_ret
      rw [HC.out, HL.out]
      exact Did.same HT.out hb1
    · have HC : Hid (delC l s br = 0) := by show delC l s br = 0; unfold delC; rw [hh, if_pos rfl, if_neg hs]
      have HL : Hid (delL l s br = delR l (pos l s)) := by show delL l s br = _; unfold delL; rw [HC.out]; rfl
      have HU := Lib.hid (rising_del (pos l s) hup)
      have q1 : ¬ s.toList = br.toList := fun e => hs (bytes_eq e)
      have q2 : (s.toList == br.toList) = false := by rw [beq_eq_false_iff_ne]; exact q1
      clear hh hup
      generalize pos l s = k at *
      go_enter Try.func11, Try.ntmps11
      go_wp2_with (go_at_call 24; refine F.out.mono ?_; rintro e w1 ⟨rfl, hb1⟩; have T1 := HT.out.below hb1; obtain ⟨A, cap, rfl⟩ := own_form T1.own; obtain ⟨c0, c1, _, f0, f1, _⟩ := T1.cells; have HT1 := Lib.hid T1; clear T1)
      refine (delete_any _ B _ l k HT1.out.own hlt).mono ?_
      rintro e w2 ⟨v', rfl, o2, g2, k2⟩
      obtain ⟨A2, cap2, rfl⟩ := own_form o2
      have b2 := HT1.out.blk.grown g2 (fun e => HT1.out.ne e.symm)
      have q2 := b2.cell 0
      have p2 := b2.frozen 0
      have Q2 : w2.cell? ⟨T, 0, none⟩ = some (.slice A l.length cap) := q2
      have B2 := Lib.hid b2
      clear q2 b2
      go_wp2_with fail
      go_ret
      rw [HC.out, HL.out]
      refine ⟨rfl, _, ⟨by simpa using B2.out.set_ 0 _, ?_, HT1.out.lo, by rw [delR_length hlt]; omega, HU.out⟩, ?_, ?_⟩
      · refine o2.kept (grown_cell w2 T 0 _) ?_
        exact .inr (own_blk_ne o2 B2.out (by decide))
      · exact ((Two.of_below hb1 T _).trans (Two.of_grown g2 T) (.inl rfl)).trans (Two.set w2 T 0 _ _) (.inl rfl)
      · rcases k2 with e | ⟨g, e, hg⟩
        · exact .inl e
        · exact .inr ⟨g, e, by have := hb1.size; omega⟩

def detC (c : Int) : Int := if c < 1 then 1 else 0
def detB (br : ByteArray) (c : Int) : ByteArray := if c < 1 then br else ⟨#[]⟩
def detD (d c : Int) : Int := if c < 1 then d else c
theorem det_any (w : World) (B T : Nat) (v : Value) (l : List Rf) (br : ByteArray) (d c : Int) (h : Tab w B T v l br d) :
    Calls Try.prog 13 #[.pointer (some ⟨T, 0, none⟩), .int .i64 c] w (Did w B T v (detC c) l (detB br c) (detD d c)) := by
  have HT := Lib.hid h
  obtain ⟨_, c1, c2, _, f1, f2⟩ := h.cells
  clear h
  by_cases h1 : c < 1
  · have HC : Hid (detC c = 1) := by show detC c = 1; unfold detC; rw [if_pos h1]
    have HB : Hid (detB br c = br) := by show detB br c = br; unfold detB; rw [if_pos h1]
    have HD : Hid (detD d c = d) := by show detD d c = d; unfold detD; rw [if_pos h1]
    go_enter Try.func13, Try.ntmps13
    go_wp2
    go_ret
    rw [HC.out, HB.out, HD.out]
    exact Did.same HT.out (Below.refl _ _)
  · have HC : Hid (detC c = 0) := by show detC c = 0; unfold detC; rw [if_neg h1]
    have HB : Hid (detB br c = ⟨#[]⟩) := by show detB br c = _; unfold detB; rw [if_neg h1]
    have HD : Hid (detD d c = c) := by show detD d c = c; unfold detD; rw [if_neg h1]
    go_enter Try.func13, Try.ntmps13
    go_wp2
    go_ret
    rw [HC.out, HB.out, HD.out]
    have b2 := (HT.out.blk.set_ 1 (.string ⟨#[]⟩)).set_ 2 (.int .i64 c)
    refine ⟨rfl, v, ⟨by simpa using b2, ?_, HT.out.lo, HT.out.few, HT.out.up⟩, (Two.set w T 1 _ _).trans (Two.set _ T 2 _ _) (.inl rfl), .inl rfl⟩
    have o1 := HT.out.own.kept (grown_cell w T 1 (.string ⟨#[]⟩)) (.inr (own_blk_ne HT.out.own HT.out.blk (by decide)))
    exact o1.kept (grown_cell _ T 2 (.int .i64 c)) (.inr (own_blk_ne o1 (HT.out.blk.set_ 1 (.string ⟨#[]⟩)) (by decide)))

def attC (s : ByteArray) : Int := if goodN s then 0 else 5
def attB (br s : ByteArray) : ByteArray := if goodN s then s else br
def attD (d : Int) (s : ByteArray) : Int := if goodN s then 0 else d
theorem att_any (w : World) (B T : Nat) (v : Value) (l : List Rf) (br s : ByteArray) (d : Int) (h : Tab w B T v l br d) (hs : s.size ≤ 1000000) :
    Calls Try.prog 12 #[.pointer (some ⟨T, 0, none⟩), .string s] w (Did w B T v (attC s) l (attB br s) (attD d s)) := by
  have HT := Lib.hid h
  obtain ⟨_, c1, c2, _, f1, f2⟩ := h.cells
  clear h
  have G := Lib.hid fun W => good_any s W hs
  cases hg : goodN s with
  | false =>
    rw [hg] at G
    have HC : Hid (attC s = 5) := by show attC s = 5; unfold attC; rw [hg]; rfl
    have HB : Hid (attB br s = br) := by show attB br s = br; unfold attB; rw [hg]; rfl
    have HD : Hid (attD d s = d) := by show attD d s = d; unfold attD; rw [hg]; rfl
    clear hg
    go_enter Try.func12, Try.ntmps12
    go_wp2_with (go_at_call 22; refine (G.out _).mono ?_; rintro e w' ⟨rfl, rfl⟩)
    go_ret
    rw [HC.out, HB.out, HD.out]
    exact Did.same HT.out (Below.refl _ _)
  | true =>
    rw [hg] at G
    have HC : Hid (attC s = 0) := by show attC s = 0; unfold attC; rw [hg]; rfl
    have HB : Hid (attB br s = s) := by show attB br s = s; unfold attB; rw [hg]; rfl
    have HD : Hid (attD d s = 0) := by show attD d s = 0; unfold attD; rw [hg]; rfl
    clear hg
    go_enter Try.func12, Try.ntmps12
    go_wp2_with (go_at_call 22; refine (G.out _).mono ?_; rintro e w' ⟨rfl, rfl⟩)
    go_ret
    rw [HC.out, HB.out, HD.out]
    have b2 := (HT.out.blk.set_ 1 (.string s)).set_ 2 (.int .i64 0)
    refine ⟨rfl, v, ⟨by simpa using b2, ?_, HT.out.lo, HT.out.few, HT.out.up⟩, (Two.set w T 1 _ _).trans (Two.set _ T 2 _ _) (.inl rfl), .inl rfl⟩
    have o1 := HT.out.own.kept (grown_cell w T 1 (.string s)) (.inr (own_blk_ne HT.out.own HT.out.blk (by decide)))
    exact o1.kept (grown_cell _ T 2 (.int .i64 0)) (.inr (own_blk_ne o1 (HT.out.blk.set_ 1 (.string s)) (by decide)))
end Go.Proofs.Ytkhdjlakclidoaa
