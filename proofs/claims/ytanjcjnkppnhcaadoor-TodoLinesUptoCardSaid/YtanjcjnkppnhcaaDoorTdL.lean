/-
  The closed play 'known' answers true.
-/
import Derived.Test.YtanjcjnkppnhcaaDoorTdK
import Derived.Test.YtanjcjnkppnhcaaDoorTdJ
import Derived.Test.YtanjcjnkppnhcaaDoorGrGKnown
import Derived.Deep.DeepCutAuto
import Derived.Deep.CutBlock
namespace Go.Proofs.YtanjcjnkppnhcaaDoor
open Go Go.RowKit

abbrev g3 : List (List Int) := [[], [1], [2]]
theorem ok3 : G.Ok g3 := by
  intro i l h p hp
  match i, h with
  | 0, h => simp at h; subst h; simp at hp
  | 1, h => simp at h; subst h; simp at hp; omega
  | 2, h => simp at h; subst h; simp at hp; omega
  | i + 3, h => simp at h
abbrev sTwo : ByteArray := ⟨#[35, 32, 120, 10, 112, 105, 99, 107, 32, 51, 10, 10, 114, 101, 119, 111, 114, 100, 32, 52, 32, 110, 101, 119, 32, 119, 111, 114, 100, 115, 10]⟩
abbrev sBad : ByteArray := ⟨#[112, 105, 99, 107, 32, 120]⟩
abbrev l2 : List Fl := [(⟨#[112, 105, 99, 107]⟩, 3, ⟨#[]⟩), (⟨#[114, 101, 119, 111, 114, 100]⟩, 4, ⟨#[110, 101, 119, 32, 119, 111, 114, 100, 115]⟩)]
abbrev p2 : List Fl := [(bPick, 2, ⟨#[]⟩), (bPick, 3, ⟨#[]⟩)]
theorem parse2 : parseP (nls sTwo.data.toList) 0 [] = .inl l2 := by decide +kernel
theorem parseBad : parseP (nls sBad.data.toList) 0 [] = .inr (0, 1) := by decide +kernel
theorem only3 : G.onlL g3 3 1 = [2, 3] := by unfold G.onlL G.onl; rw [G.anc_reck ok3, G.anc_reck ok3]; decide
theorem plain3 : plainS g3 1 3 = p2 := by unfold plainS; rw [only3]; decide +kernel
theorem check3 : checkV g3 p2 = none := by decide +kernel
theorem check4 : checkV g3 l2 = some (1, 1) := by decide +kernel
theorem text2 : stepsL l2 = [112, 105, 99, 107, 32, 51, 10, 114, 101, 119, 111, 114, 100, 32, 52, 32, 110, 101, 119, 32, 119, 111, 114, 100, 115, 10] := by decide +kernel
theorem own_block3 {w : World} {B n : Nat} {ty : TypeId} {u : Value} {l : List Fl} (h : w.ownsRow B ty 3 u l.length (l.flatMap cF)) (hn : l.length = n) (h0 : n ≠ 0) : ∃ g c, u = .slice (some ⟨g, 0, none⟩) n c ∧ (∀ i x, (l.flatMap cF)[i]? = some x → w.cell? ⟨g, i, none⟩ = some x) := by
  subst hn
  obtain ⟨A, c, rfl⟩ := own_form h
  obtain ⟨g, rfl⟩ : ∃ g, A = some ⟨g, 0, none⟩ := by
    rcases h.2 with ⟨_, e2⟩ | ⟨g, cap, cur, e, _⟩
    · exact absurd e2 h0
    · injection e with e1 _ _; exact ⟨_, e1⟩
  refine ⟨g, c, rfl, fun i x hx => ?_⟩
  have := h.cells (g := g) rfl i x hx
  rw [add_zero_addr] at this
  exact this
set_option maxRecDepth 100000 in
set_option maxHeartbeats 8000000 in
theorem known21_yes (w : World) (m : Int) (hm : w.cell? ⟨1, 0, none⟩ = some (.int .i64 m)) (h1 : 1 < w.heap.size) : Calls Tryd.prog 5 #[] w fun e w' => e = .returned (.bool true) ∧ Below w.heap.size w w' := by
  have P1 := parse_any sTwo w m hm (by decide)
  rw [parse2] at P1
  have P1 := Lib.hid P1
  have HM := Lib.hid fun W (hW : Below w.heap.size w W) => (show W.cell? ⟨1, 0, none⟩ = some (.int .i64 m) by rw [hW.cell h1]; exact hm)
  clear hm h1
  go_enter Tryd.func5, Tryd.ntmps5
  go_wp2_with fail
  refine P1.out.mono ?_
  rintro e w1 (⟨xs, u1, hx, rfl, o1, -, d1⟩ | ⟨i, k, F, hx, _⟩)
  case inr => cases hx
  cases hx
  obtain ⟨g1, c1, rfl, h1⟩ := own_block3 (n := 2) o1 rfl (by decide)
  have X5 := Lib.hid (h1 5 _ rfl)
  have D1 := Lib.hid d1
  have R1 := Lib.hid (Reads.of_own (enc := cF) cF_len o1)
  have P2 := parse_any sBad w1 m (HM.out _ d1) (by decide)
  rw [parseBad] at P2
  have P2 := Lib.hid P2
  have G1 := Lib.hid (show g1 < w1.heap.size from by have := h1 0 _ rfl; exact World.block_lt_of_cell? _ _ this)
  clear P1 HM o1 d1 h1
  go_wp2_with fail
  refine P2.out.mono ?_
  rintro e w2 (⟨xs, u2, hx, _⟩ | ⟨i, k, F, hx, rfl, -, -, d2⟩)
  case inl => cases hx
  cases hx
  have D2 := Lib.hid (D1.out.trans (d2.mono D1.out.size))
  have E2 := Lib.hid d2
  clear P2 d2 D1
  have e1 : ∀ (X : World) (o : Obj), (X.alloc o).heap.size = X.heap.size + 1 := fun X o => by simp
  have b1 := (Below.refl w2.heap.size w2).alloc (Nat.le_refl _) (.cells #[.int .i64 1] 3)
  have b2 := b1.alloc b1.size (.cells #[.int .i64 2] 3)
  have i1 := G.Ints.lit w2 #[.int .i64 1] 3 [1] rfl (by simp [maxLen])
  have i2 := G.Ints.lit (w2.alloc (.cells #[.int .i64 1] 3)) #[.int .i64 2] 3 [2] rfl (by simp [maxLen])
  rw [e1] at i2
  have i1 := i1.alloc (.cells #[.int .i64 2] 3)
  have hz : ((w2.alloc (.cells #[.int .i64 1] 3)).alloc (.cells #[.int .i64 2] 3)).heap.size = w2.heap.size + 1 + 1 := by rw [e1, e1]
  have k := Blk.new ((w2.alloc (.cells #[.int .i64 1] 3)).alloc (.cells #[.int .i64 2] 3)) 42 #[.slice none 0 0, .slice (some ⟨w2.heap.size, 0, none⟩) 1 1, .slice (some ⟨w2.heap.size + 1, 0, none⟩) 1 1]
  rw [hz] at k
  have b3 := b2.alloc b2.size (.cells #[.slice none 0 0, .slice (some ⟨w2.heap.size, 0, none⟩) 1 1, .slice (some ⟨w2.heap.size + 1, 0, none⟩) 1 1] 42)
  have hG : G.Rows (((w2.alloc (.cells #[.int .i64 1] 3)).alloc (.cells #[.int .i64 2] 3)).alloc (.cells #[.slice none 0 0, .slice (some ⟨w2.heap.size, 0, none⟩) 1 1, .slice (some ⟨w2.heap.size + 1, 0, none⟩) 1 1] 42)) (.slice (some ⟨w2.heap.size + 1 + 1, 0, none⟩) 3 3) g3 := by
    refine G.Rows.lit k rfl rfl (by simp [maxLen]) fun i l hi => ?_
    match i, hi with
    | 0, hi => simp at hi; subst hi; exact ⟨_, rfl, G.Ints.nil _⟩
    | 1, hi => simp at hi; subst hi; exact ⟨_, rfl, i1.alloc _⟩
    | 2, hi => simp at hi; subst hi; exact ⟨_, rfl, i2.alloc _⟩
    | i + 3, hi => simp at hi
  have HG := Lib.hid hG
  have B3 := Lib.hid b3
  clear k hz i1 i2 b1 b2 e1 hG b3
  go_upto_region 4 with fail
  generalize ((w2.alloc (.cells #[.int .i64 1] 3)).alloc (.cells #[.int .i64 2] 3)).alloc (.cells #[.slice none 0 0, .slice (some ⟨w2.heap.size, 0, none⟩) 1 1, .slice (some ⟨w2.heap.size + 1, 0, none⟩) 1 1] 42) = W at *
  generalize Value.slice (some ⟨w2.heap.size + 1 + 1, 0, none⟩) 3 3 = v at *
  have PL := plain_any W v g3 1 3 HG.out (by decide)
  rw [plain3] at PL
  have PL := Lib.hid PL
  have D3 := Lib.hid (D2.out.trans (B3.out.mono D2.out.size))
  have E3 := Lib.hid (E2.out.trans (B3.out.mono E2.out.size))
  clear D2 E2 B3
  go_wp2_with fail
  refine PL.out.mono ?_
  rintro e w4 ⟨u4, rfl, o4, d4⟩
  obtain ⟨g4, c4, rfl, h4⟩ := own_block3 (n := 2) o4 rfl (by decide)
  have Y1 := h4 1 _ rfl
  have R4 := Lib.hid (Reads.of_own (enc := cF) cF_len o4)
  have D4 := Lib.hid (D3.out.trans (d4.mono D3.out.size))
  have E4 := Lib.hid (E3.out.trans (d4.mono E3.out.size))
  have X4 := (E4.out.cell (p := ⟨g1, 5, none⟩) G1.out).trans X5.out
  have TX := text_steps w4 _ l2 (R1.out.below E4.out) (by decide) (by unfold StepOk; decide)
  rw [text2] at TX
  have TX := Lib.hid TX
  have CK1 := Lib.hid fun X (hX : Below w4.heap.size w4 X) => (show Calls Tryd.prog 10 #[.slice (some ⟨g4, 0, none⟩) 2 c4, v] X fun e w' => e = .returned .nilIface ∧ Below X.heap.size X w' from (checkS_any X _ v p2 g3 (R4.out.below hX) (HG.out.below (d4.trans (hX.mono d4.size))) (by decide) (by decide)).mono fun e w' h => by
    rw [check3] at h
    rcases h with ⟨-, h1, h2⟩ | ⟨i, k, F, h1, _⟩
    · exact ⟨h1, h2⟩
    · cases h1)
  have CK2 := Lib.hid fun X (hX : Below w4.heap.size w4 X) => (show Calls Tryd.prog 10 #[.slice (some ⟨g1, 0, none⟩) 2 c1, v] X fun e w' => (∃ F, e = .returned (.iface 46 (.pointer (some ⟨F, 0, none⟩)))) ∧ Below X.heap.size X w' from (checkS_any X _ v l2 g3 (R1.out.below (E4.out.trans (hX.mono E4.out.size))) (HG.out.below (d4.trans (hX.mono d4.size))) (by decide) (by decide)).mono fun e w' h => by
    rw [check4] at h
    rcases h with ⟨h1, _⟩ | ⟨i, k, F, h1, h2, _, _, h3⟩
    · cases h1
    · exact ⟨⟨F, h2⟩, h3⟩)
  have hg4 : g4 < w4.heap.size := World.block_lt_of_cell? _ _ Y1
  clear PL R4 R1 HG o4 h4 d4 D3 E3 E4 X5
  go_wp2_with (first
    | (go_at_call 11; go_loud (with_reducible refine TX.out.mono ?_); rintro e w5 ⟨rfl, d5⟩; have Y5 := (d5.cell (p := ⟨g4, 1, none⟩) hg4).trans Y1; have D5 := Lib.hid (D4.out.trans (d5.mono D4.out.size)); have C5 := Lib.hid d5; clear d5)
    | (go_at_call 10; (with_reducible refine (CK1.out _ C5.out).mono ?_); rintro e w6 ⟨rfl, d6⟩; have C6 := Lib.hid (C5.out.trans (d6.mono C5.out.size)); clear d6)
    | (go_at_call 10; go_loud (with_reducible refine (CK2.out _ C6.out).mono ?_); rintro e w7 ⟨⟨F7, rfl⟩, d7⟩; have C7 := Lib.hid (C6.out.trans (d7.mono C6.out.size)); clear d7))
  go_ret
  exact ⟨rfl, D4.out.trans (C7.out.mono D4.out.size)⟩
end Go.Proofs.YtanjcjnkppnhcaaDoor
