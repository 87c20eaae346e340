/-
  Contracts of the small functions of the seat: Clone, with, latest, split.
-/
import Derived.Test.YtcfcbfpnaaeaaaaBase
import Derived.Deep.RegionHeld3
import Derived.Deep.RegionWith
import Derived.BigQuiet
import Derived.Deep.QuietTactic
import Derived.WalkLawsBesides
import Derived.Outline
namespace Go.Proofs.Ytcfcbfpnaaeaaaa
open Go.RowKit

theorem strInfo : (Try.prog.info? 9).map (fun i => (i.zero, i.size, i.bytes)) = some (some (.string { data := #[] }), 1, 16) := by kernel_rfl

/-- slices.Clone: new memory of the call's own (or nil), the same strings. -/
def Cloned (B : Nat) (w : World) (n : Nat) (ss : List ByteArray) (e : Ending) (w' : World) : Prop :=
  ∃ v, e = .returned v ∧ w'.ownsRow B 9 1 v n (ss.map Value.string) ∧ Below w.heap.size w w'

set_option maxHeartbeats 1000000 in
theorem clone_any (w : World) (v : Value) (ss : List ByteArray) (h : Strs w v ss) (hl : ss.length ≤ 1000000) :
    Calls Try.prog 17 #[v] w (Cloned w.heap.size w ss.length ss) := by
  obtain ⟨A, c, rfl, h1, h2, h3, h4⟩ := h
  obtain ⟨i0, hi, hz0, hz1, hz2⟩ := info_parts strInfo
  have q24 : ∀ (w : World) (a : Option Addr) (n c n' c' : Nat), (binOp .eql 24 (.slice a n c) (.slice none n' c')).run Try.prog w = .ok (.bool a.isNone) w := fun w a n c n' c' => Lib.run_eql_slice_nil w _ _ a n c n' c' Try.underlying24
  cases A with
  | none =>
    have hc := h3 rfl
    subst hc
    have h0 : ss = [] := List.eq_nil_of_length_eq_zero (by omega)
    subst h0
    go_enter Try.func17, Try.ntmps17
    go_wp2
    go_ret
    exact ⟨_, rfl, World.ownsRow_nil _ _ _ _, Below.refl _ _⟩
  | some ad =>
    generalize hn : ss.length = n at *
    clear h3
    have hcells : ∀ j u, (ss.map Value.string)[j]? = some u → w.cell? (ad.add j) = some u := by
      intro j u hu
      rw [List.getElem?_map] at hu
      cases hs : ss[j]? with
      | none => rw [hs] at hu; cases hu
      | some s => rw [hs] at hu; cases hu; exact h4 ad rfl j s hs
    clear h4
    have hlen : (ss.map Value.string).length = n * 1 := by simp [hn]
    have HN := Lib.hid hn
    clear hn
    have HC := Lib.hid hcells
    clear hcells
    go_enter Try.func17, Try.ntmps17
    go_wp2_with (at_builtin; refine wpList_append_own _ rfl _ _ 24 rfl w.heap.size 9 i0 (.string { data := #[] }) 1 16 Try.underlying24 hi hz0 hz1 hz2 rfl (by decide) _ _ _ rfl (World.ownsRow_made w #[] 0 (Nat.le_refl _) (Nat.zero_le _) rfl) ad n c (ss.map Value.string) rfl ?c1 ?c2 ?c3 ?c4 ?c5 ?c6 ?_)
    case c1 => exact hlen
    case c2 =>
      intro j u hu
      have := HC.out j u hu
      rw [World.cell?_alloc_lt _ _ _ (World.block_lt_of_cell? w _ this)]
      exact this
    case c3 => intro u hu; obtain ⟨x, _, rfl⟩ := List.mem_map.1 hu; rfl
    case c4 => unfold maxLen; omega
    case c5 => omega
    case c6 => simp
    intro v' w1 hown hgrow hnil
    go_wp2
    go_ret
    exact ⟨v', rfl, by simpa using hown, ((Below.refl _ w).alloc (Nat.le_refl _) _).grown hgrow (by simp) (by intro k hk; simp [Value.ownBlock] at hk; omega)⟩

set_option maxHeartbeats 1000000 in
theorem with_any (w : World) (v : Value) (ss : List ByteArray) (s : ByteArray) (h : Strs w v ss) (hl : ss.length ≤ 1000000) :
    Calls Try.prog 13 #[v, .string s] w (Cloned w.heap.size w (ss.length + 1) (ss ++ [s])) := by
  obtain ⟨i0, hi, hz0, hz1, hz2⟩ := info_parts strInfo
  have C := clone_any w v ss h hl
  have HC := Lib.hid C
  clear C h
  generalize hn : ss.length = n at *
  have HN := Lib.hid hn
  clear hn
  go_enter Try.func13, Try.ntmps13
  go_wp2_with (first
    | (go_at_call 17; refine HC.out.mono ?_; rintro e w1 ⟨v1, rfl, hown1, hb1⟩)
    | (at_builtin; refine wpList_append_own _ rfl _ _ 24 rfl w.heap.size 9 i0 (.string { data := #[] }) 1 16 Try.underlying24 hi hz0 hz1 hz2 rfl (by decide) _ _ _ rfl (hown1.alloc _) ⟨w1.heap.size, 0, none⟩ 1 1 [.string s] rfl ?c1 ?c2 ?c3 ?c4 ?c5 ?c6 ?_))
  case c1 => rfl
  case c2 => exact cell_one_new _ _ _
  case c3 => intro u hu; simp at hu; subst hu; rfl
  case c4 => unfold maxLen; omega
  case c5 => omega
  case c6 => have := hb1.size; simp; omega
  intro v' w2 hown2 hg2 hnil
  go_wp2
  go_ret
  refine ⟨v', rfl, by simpa using hown2, (hb1.alloc (hb1.size) _).grown hg2 (by have := hb1.size; simp; omega) fun k hk => (hown1.lt k hk).1⟩

set_option maxHeartbeats 1000000 in
/-- latest: the last 64. -/
theorem latest_any (w : World) (v : Value) (ss : List ByteArray) (h : Strs w v ss) (hl : ss.length ≤ 1000000) :
    Calls Try.prog 12 #[v] w (Cloned w.heap.size w (min ss.length 64) (ss.drop (ss.length - 64))) := by
  obtain ⟨A, c, rfl, h1, h2, h3, h4⟩ := id h
  by_cases hk : 64 ≤ ss.length
  · have hcut := h.cut (k := ss.length - 64) (by omega)
    rw [if_neg (by omega)] at hcut
    have C := clone_any w _ _ hcut (by simp; omega)
    have e : min ss.length 64 = (ss.drop (ss.length - 64)).length := by simp; omega
    rw [e]
    have HC := Lib.hid C
    clear C h h3 h4 hcut e
    generalize hn : ss.length = n at *
    have HN := Lib.hid hn
    clear hn
    unfold maxLen at h2
    go_enter Try.func12, Try.ntmps12
    go_wp2_with (go_at_call 17; refine HC.out.mono ?_; rintro e w1 ⟨v1, rfl, hown1, hb1⟩)
    go_ret
    exact ⟨v1, rfl, hown1, hb1⟩
  · have C := clone_any w _ _ h hl
    have e : min ss.length 64 = ss.length := by omega
    have e2 : ss.drop (ss.length - 64) = ss := by rw [show ss.length - 64 = 0 by omega]; rfl
    rw [e, e2]
    have HC := Lib.hid C
    clear C h h3 h4 e e2
    generalize hn : ss.length = n at *
    have HN := Lib.hid hn
    clear hn
    unfold maxLen at h2
    go_enter Try.func12, Try.ntmps12
    go_wp2_with (go_at_call 17; refine HC.out.mono ?_; rintro e w1 ⟨v1, rfl, hown1, hb1⟩)
    go_ret
    exact ⟨v1, rfl, hown1, hb1⟩

/-- split: all but the last, and the last. -/
def Parted (B : Nat) (w : World) (n : Nat) (ss : List ByteArray) (s : ByteArray) (e : Ending) (w' : World) : Prop :=
  ∃ v, e = .returned (.tuple #[v, .string s]) ∧ w'.ownsRow B 9 1 v n (ss.map Value.string) ∧ Below w.heap.size w w'

set_option maxHeartbeats 1000000 in
theorem split_any (w : World) (v : Value) (ss : List ByteArray) (s : ByteArray) (h : Strs w v (ss ++ [s])) (hl : ss.length ≤ 1000000) :
    Calls Try.prog 14 #[v] w (Parted w.heap.size w ss.length ss s) := by
  obtain ⟨A, c, rfl, h1, h2, h3, h4⟩ := id h
  simp only [List.length_append, List.length_singleton] at *
  have A0 : ∃ ad, A = some ad := by
    cases A with
    | none => have := h3 rfl; omega
    | some ad => exact ⟨ad, rfl⟩
  obtain ⟨ad, rfl⟩ := A0
  have hcell := h4 ad rfl ss.length s (by simp)
  have C : ∀ W, Below w.heap.size w W → Calls Try.prog 17 #[.slice (some ad) ss.length c] W (Cloned W.heap.size W ss.length ss) := fun W hb => by
    have := clone_any W _ _ ((h.below hb).take (k := ss.length) (by simp)) (by simp; omega)
    simpa using this
  have HC := Lib.hid C
  clear C h h3 h4
  generalize hn : ss.length = n at *
  have HN := Lib.hid hn
  clear hn
  unfold maxLen at h2
  go_enter Try.func14, Try.ntmps14
  go_wp2_with fail
  have hb0 : Below w.heap.size w w.drew := (Below.refl _ _).drew
  have hlt := World.block_lt_of_cell? w _ hcell
  have hi0 : (0 : Int) ≤ (n : Int) := Int.natCast_nonneg _
  have hi1 : (n : Int) < (n : Int) + 1 := by omega
  have hi2 : (n : Int) ≤ (c : Int) := by omega
  have hi3 : n ≤ c := by omega
  go_region_held3 (fun w' => w'.cell? (ad.add n) = some (.string s) ∧ Below w.heap.size w w') (first | exact ⟨hcell, hb0⟩ | exact ⟨hc1, hb1⟩)
    (first | (go_at_call 17; refine (HC.out _ hb0).mono ?_; rintro e w1 ⟨v1, rfl, hown1, hb1'⟩; have hb1 := hb0.trans hb1'; have hc1 := (hb1.cell hlt).trans hcell))
  all_goals go_wp2
  all_goals go_ret2
  all_goals exact ⟨v1, rfl, hown1, hb1⟩

end Go.Proofs.Ytcfcbfpnaaeaaaa
