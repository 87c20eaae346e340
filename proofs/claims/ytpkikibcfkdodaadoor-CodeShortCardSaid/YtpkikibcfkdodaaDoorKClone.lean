/-
  bytes.Clone, (*Enc).Bytes, Of.
-/
import Derived.Test.YtpkikibcfkdodaaDoorKText
namespace Go.Proofs.YtpkikibcfkdodaaDoor
open Go Go.RowKit

theorem BOwn.cells {w : World} {B g c : Nat} {l : List UInt8} (h : BOwn w B (.slice (some ⟨g, 0, none⟩) l.length c) l) : ∀ j v, (bc l)[j]? = some v → w.cell? ⟨g, j, none⟩ = some v := by
  intro j v hj
  have := World.ownsRow.cells h (g := g) rfl j v hj
  rw [Addr.add_lit, Nat.zero_add] at this
  exact this
theorem q22 (w : World) (a : Option Addr) (n c n' c' : Nat) : (binOp .eql 39 (.slice a n c) (.slice none n' c')).run Tryd.prog w = .ok (.bool a.isNone) w := Lib.run_eql_slice_nil w _ _ a n c n' c' Tryd.underlying39

def Cloned (l : List UInt8) (w : World) (e : Ending) (w' : World) : Prop := ∃ v', e = .returned v' ∧ BOwn w' w.heap.size v' l ∧ Below w.heap.size w w'
set_option maxRecDepth 100000 in
set_option maxHeartbeats 1000000 in
theorem clone_any (w : World) (B : Nat) (v : Value) (l : List UInt8) (h : BOwn w B v l) (hl : l.length ≤ 1000000) : Calls Tryd.prog 44 #[v] w (Cloned l w) := by
  obtain ⟨i0, hi0, hz0, hz1, hz2⟩ := info_parts byteInfo
  have q22 := q22
  rcases h.2 with ⟨rfl, h0⟩ | ⟨g, cap, cur, rfl, _, hh, hn, hm, _⟩
  · obtain rfl := List.eq_nil_of_length_eq_zero h0
    go_enter Tryd.func44, Tryd.ntmps44
    go_wp2
    go_ret
    exact ⟨_, rfl, World.ownsRow_nil _ _ _ _, Below.refl _ _⟩
  · have HC := Lib.hid (BOwn.cells h)
    have HL : Hid ((bc l).length = l.length * 1) := Lib.hid (by rw [Lib.byteCells_length, Nat.mul_one])
    have hlt := (Array.getElem?_eq_some_iff.1 hh).1
    clear h hh hm hn
    go_enter Tryd.func44, Tryd.ntmps44
    go_wp2_with (at_builtin; refine wpList_append_own_at _ rfl _ _ 39 rfl w.heap.size 5 i0 _ 1 1 Tryd.underlying39 hi0 hz0 hz1 hz2 rfl (by decide) _ _ _ rfl (World.ownsRow_made w #[] 0 (Nat.le_refl _) (Nat.zero_le _) rfl) ⟨g, 0, none⟩ l.length cap (bc l) rfl HL.out ?c1 (bc_one l) ?c3 ?c4 ?c5 ?_)
    try case c1 =>
      intro j u hj
      first
        | (rw [Addr.add_lit, Nat.zero_add]; exact Lib.cell?_alloc_some _ (HC.out j u hj))
        | exact Lib.cell?_alloc_some _ (HC.out j u hj)
    case c3 => unfold maxLen; omega
    case c4 => omega
    case c5 => first | simp | omega
    intro v' w1 hown hg' _ hat
    go_wp2
    go_ret
    exact ⟨v', rfl, by simpa using hown, ((Below.refl _ w).alloc (Nat.le_refl _) _).grown hg' (by simp) (by intro k hk; simp [Value.ownBlock] at hk; omega)⟩
#print axioms clone_any

set_option maxHeartbeats 1000000 in
theorem bytes_any (w : World) (B E : Nat) (v : Value) (l : List UInt8) (h : EncAt w B E v l) (hl : l.length ≤ 1000000) : Calls Tryd.prog 25 #[.pointer (some ⟨E, 0, none⟩)] w (Cloned l w) := by
  have c0 := h.blk.cell 0
  have C := Lib.hid (clone_any w B v l h.own hl)
  have hlt := h.blk.lt
  obtain ⟨A, n, c, rfl⟩ : ∃ A n c, v = .slice A n c := by obtain ⟨A, c, h⟩ := own_form h.own; exact ⟨A, _, c, h⟩
  clear h
  go_enter Tryd.func25, Tryd.ntmps25
  go_wp2_with fail
  refine C.out.mono ?_
  rintro e w' ⟨v', rfl, ho, hb⟩
  go_wp2
  go_ret
  exact ⟨v', rfl, ho, hb⟩

/-- A Dec: block D; the bytes L in v; it stands at the place at; nothing was wrong. -/
structure DecAt (w : World) (B D : Nat) (v : Value) (L : List UInt8) (at_ : Nat) : Prop where
  blk : Blk w D 89 #[v, .int .i64 at_, .int .i64 0, .int .i64 0]
  own : BOwn w B v L
  lo : B ≤ D
theorem DecAt.ne {w : World} {B D at_ : Nat} {v : Value} {L : List UInt8} (h : DecAt w B D v L at_) : v.ownBlock ≠ some D := own_blk_ne h.own h.blk (by decide)
theorem DecAt.below {w w' : World} {B D at_ : Nat} {v : Value} {L : List UInt8} (h : DecAt w B D v L at_) (hb : Below w.heap.size w w') : DecAt w' B D v L at_ := ⟨h.blk.below hb h.blk.lt, own_keep h.own hb, h.lo⟩

set_option maxHeartbeats 1000000 in
theorem of_any (w : World) (B : Nat) (v : Value) (l : List UInt8) (h : BOwn w B v l) (hl : l.length ≤ 1000000) :
    Calls Tryd.prog 15 #[v] w fun e w' => ∃ D v', e = .returned (.pointer (some ⟨D, 0, none⟩)) ∧ DecAt w' w.heap.size D v' l 0 ∧ Below w.heap.size w w' := by
  have C := Lib.hid (clone_any w B v l h hl)
  obtain ⟨A, c, rfl⟩ := own_form h
  clear h
  go_enter Tryd.func15, Tryd.ntmps15
  go_wp2_with fail
  refine C.out.mono ?_
  rintro e w' ⟨v', rfl, ho, hb⟩
  have HO := Lib.hid ho
  have HB := Lib.hid hb
  obtain ⟨A2, c2, rfl⟩ := own_form ho
  clear ho hb
  go_wp2_with fail
  go_ret
  exact ⟨_, _, rfl, ⟨heap_alloc_new _ _, HO.out.alloc _, HB.out.size⟩, HB.out.alloc HB.out.size _⟩
#print axioms of_any
end Go.Proofs.YtpkikibcfkdodaaDoor
