/-
  The closed play 'known' of the patch answers true.
-/
import Derived.Test.YtdpoeagmeiedcaaDoorP13
namespace Go.Proofs.YtdpoeagmeiedcaaDoor
open Go Go.RowKit

abbrev bA : ByteArray := ⟨#[97, 10]⟩
abbrev bB : ByteArray := ⟨#[98, 10]⟩
abbrev bC : ByteArray := ⟨#[99, 10]⟩
abbrev bD : ByteArray := ⟨#[100, 10]⟩
abbrev l0 : List EdI := [(1, bA), (2, bB), (3, bC), (1, bD)]
abbrev H0 : Hk := ⟨1, 1, 1, 1, [(2, bB), (3, bC)]⟩
abbrev H1 : Hk := ⟨1, 1, 1, 1, [(2, bC), (3, bB)]⟩
abbrev bTxt : ByteArray := ⟨#[64, 64, 32, 45, 49, 44, 49, 32, 43, 49, 44, 49, 32, 64, 64, 10, 45, 98, 10, 43, 99, 10]⟩
theorem kp1 : hunksP l0 (min (0 : Int).toNat 16) = [H0] := by kernel_rfl
theorem kp2 : applyH [bA, bB, bD] [H0] 0 [] 0 = .inr [bA, bC, bD] := by decide +kernel
theorem kp3 : applyH [] [H0] 0 [] 0 = .inl (0, 4) := by decide +kernel
theorem kp4 : [H0].map turnH = [H1] := by kernel_rfl
theorem kp5 : (⟨(textL [H0]).toArray⟩ : ByteArray) = bTxt := by decide +kernel
theorem ok0 : ∀ h ∈ [H0], HkOk h := by
  intro h hh
  rw [List.mem_singleton] at hh
  subst hh
  exact ⟨by decide, by decide, by decide, by decide, by decide⟩
theorem two0 : ∀ h ∈ [H0], HkTwo h := by
  intro h hh
  rw [List.mem_singleton] at hh
  subst hh
  exact ⟨by decide, by decide, by decide, by decide, by decide, by decide⟩
theorem turn0 : ∀ x ∈ [H0], x.ls.length ≤ 1000 ∧ ∀ e ∈ x.ls, e.1 = 2 ∨ e.1 = 3 := by
  intro h hh
  rw [List.mem_singleton] at hh
  subst hh
  exact ⟨by decide, by decide⟩
theorem applied_ok {l : List ByteArray} {w w' : World} {e : Ending} (h : AppliedTo (.inr l) w e w') : ∃ v, e = .returned (.tuple #[v, .nilIface]) ∧ w'.ownsRow w.heap.size 9 1 v l.length (l.map Value.string) ∧ Below w.heap.size w w' := by
  rcases h with ⟨l', v, h1, h2, h3, h4⟩ | ⟨_, _, _, h1, _⟩
  · cases h1; exact ⟨v, h2, h3, h4⟩
  · cases h1
theorem applied_bad {i : Nat} {k : Int} {w w' : World} {e : Ending} (h : AppliedTo (.inl (i, k)) w e w') : ∃ F, e = .returned (.tuple #[.slice none 0 0, theFault F]) ∧ Blk w' F 102 #[.string bHunk, .int .i64 (i : Int), .iface 97 (.int .i64 k)] ∧ Below w.heap.size w w' := by
  rcases h with ⟨_, _, h1, _⟩ | ⟨i', k', F, h1, h2, h3, h4⟩
  · cases h1
  · cases h1; exact ⟨F, h2, h3, h4⟩
theorem lit_eds (w : World) : Reads 2 cEd (w.alloc (.cells #[.int .i64 1, .string bA, .int .i64 2, .string bB, .int .i64 3, .string bC, .int .i64 1, .string bD] 66)) (.slice (some ⟨w.heap.size, 0, none⟩) 4 4) l0 :=
  Reads.of_own (base := w.heap.size) (e := 66) cEd_len ⟨rfl, .inr ⟨w.heap.size, 4, _, rfl, Nat.le_refl _, heap_alloc_new w _, Nat.le_refl _, by unfold maxLen; omega, rfl, rfl⟩⟩
theorem lit_strs (w : World) : Strs (w.alloc (.cells #[.string bA, .string bB, .string bD] 9)) (.slice (some ⟨w.heap.size, 0, none⟩) 3 3) [bA, bB, bD] := by
  refine ⟨some ⟨w.heap.size, 0, none⟩, 3, rfl, Nat.le_refl _, by unfold maxLen; omega, (fun h => by cases h), ?_⟩
  intro ad ha i s hs
  obtain rfl := Option.some.inj ha
  rw [add_zero_addr]
  have h := cell_of_row _ w.heap.size i _ 9 (0, 0) (heap_alloc_new w (.cells #[.string bA, .string bB, .string bD] 9))
  rw [h]
  match i, hs with
  | 0, hs => simp at hs; subst hs; rfl
  | 1, hs => simp at hs; subst hs; rfl
  | 2, hs => simp at hs; subst hs; rfl
  | i + 3, hs => simp at hs
/-- One hunk in a row of the call's own: its five cells, and where its lines are. -/
theorem one_hunk {w w' : World} {B : Nat} {v : Value} {vals : List Value} {h : Hk} (ho : w.ownsRow B 64 5 v 1 vals) (hv : HkV 66 w B vals [h]) (hb : Below w.heap.size w w') :
    ∃ (g cap A2 : Nat) (vl : Value) (c2 : Nat), v = .slice (some ⟨g, 0, none⟩) 1 cap ∧ w'.cell? ⟨g, 0, none⟩ = some (.int .i64 h.at_) ∧ w'.cell? ⟨g, 1, none⟩ = some (.int .i64 h.del) ∧ w'.cell? ⟨g, 3, none⟩ = some (.int .i64 h.add) ∧ w'.cell? ⟨g, 4, none⟩ = some vl ∧
      (h.ls ≠ [] → vl = .slice (some ⟨A2, 0, none⟩) h.ls.length c2 ∧ ∀ (j : Nat) u, (h.ls.flatMap cEd)[j]? = some u → w'.cell? ⟨A2, j, none⟩ = some u) := by
  obtain ⟨vl, rest, hvals, hl, hrest⟩ := hv
  obtain rfl : rest = [] := hrest
  subst hvals
  rcases ho.2 with ⟨_, e2⟩ | ⟨g, cap, cur, rfl, _⟩
  · cases e2
  · have k : ∀ (j : Nat) u, [Value.int .i64 h.at_, .int .i64 h.del, .int .i64 h.to_, .int .i64 h.add, vl][j]? = some u → w'.cell? ⟨g, j, none⟩ = some u := fun j u hu => by
      have := ho.cells (g := g) rfl j u hu
      rw [add_zero_addr] at this
      exact (hb.cell (World.block_lt_of_cell? _ _ this)).trans this
    rcases hl.2 with ⟨rfl, e2⟩ | ⟨g2, cap2, cur2, rfl, _⟩
    · exact ⟨g, cap, 0, _, 0, rfl, k 0 _ rfl, k 1 _ rfl, k 3 _ rfl, k 4 _ rfl, fun hn => absurd (List.eq_nil_of_length_eq_zero e2) hn⟩
    · refine ⟨g, cap, g2, _, cap2, rfl, k 0 _ rfl, k 1 _ rfl, k 3 _ rfl, k 4 _ rfl, fun _ => ⟨rfl, fun j u hu => ?_⟩⟩
      have := hl.cells (g := g2) rfl j u hu
      rw [add_zero_addr] at this
      exact (hb.cell (World.block_lt_of_cell? _ _ this)).trans this

set_option maxRecDepth 100000 in
set_option maxHeartbeats 8000000 in
theorem known12_yes (w : World) : Calls Tryd.prog 19 #[] w (YesB w) := by
  have b1 := (Below.refl w.heap.size w).alloc (Nat.le_refl _) (.cells #[.int .i64 1, .string bA, .int .i64 2, .string bB, .int .i64 3, .string bC, .int .i64 1, .string bD] 66)
  have HU := hunks_any _ _ l0 0 (lit_eds w) (by decide)
  rw [kp1] at HU
  have HU := Lib.hid HU
  go_enter Tryd.func19, Tryd.ntmps19
  go_wp2_with fail
  refine HU.out.mono ?_
  rintro e w2 ⟨v2, vals2, rfl, o2, h2, d2⟩
  have B2 := Lib.hid (b1.trans (d2.mono b1.size))
  have R2 := Lib.hid (HksIn.of_own o2 h2)
  have O2 := Lib.hid o2
  have V2 := Lib.hid h2
  obtain ⟨A2, c2, rfl⟩ := own_formP o2
  have b3 := (Below.refl w2.heap.size w2).alloc (Nat.le_refl _) (.cells #[.string bA, .string bB, .string bD] 9)
  have B3 := Lib.hid (B2.out.trans (b3.mono B2.out.size))
  have D3 := Lib.hid b3
  have AP := apply_any _ _ _ [bA, bB, bD] [H0] (lit_strs w2) (R2.out.below b3) (by decide) (by decide) ok0
  rw [kp2] at AP
  have AP := Lib.hid AP
  clear b1 HU o2 h2 d2 b3 B2
  go_wp2_with fail
  refine AP.out.mono ?_
  rintro e w4 h4
  obtain ⟨v4, rfl, o4, d4⟩ := applied_ok h4
  have D4 := Lib.hid (D3.out.trans (d4.mono D3.out.size))
  have B4 := Lib.hid (B3.out.trans (d4.mono B3.out.size))
  have O4 := Lib.hid o4
  have AQ := apply_any w4 (.slice none 0 0) _ [] [H0] (Strs.nil w4) (R2.out.below D4.out) (by decide) (by decide) ok0
  rw [kp3] at AQ
  have AQ := Lib.hid AQ
  obtain ⟨A4, c4, rfl⟩ := own_formP o4
  clear h4 o4 d4 AP B3 D3
  go_wp2_with fail
  refine AQ.out.mono ?_
  rintro e w5 h5
  obtain ⟨F, rfl, _, d5⟩ := applied_bad h5
  have D5 := Lib.hid (D4.out.trans (d5.mono D4.out.size))
  have B5 := Lib.hid (B4.out.trans (d5.mono B4.out.size))
  have O5 := Lib.hid (own2_keep O4.out d5)
  have TU := turnedH_any w5 _ [H0] (R2.out.below D5.out) (by decide) turn0
  rw [kp4] at TU
  have TU := Lib.hid TU
  clear h5 d5 AQ B4 D4 O4
  go_wp2_with fail
  refine TU.out.mono ?_
  rintro e w6 ⟨v6, vals6, rfl, o6, h6, d6⟩
  have D6 := Lib.hid (D5.out.trans (d6.mono D5.out.size))
  have B6 := Lib.hid (B5.out.trans (d6.mono B5.out.size))
  have O6 := Lib.hid (own2_keep O5.out d6)
  have TX := ptext_any w6 _ [H0] (R2.out.below D6.out) (by decide) two0
  rw [kp5] at TX
  have TX := Lib.hid TX
  obtain ⟨g, cap, G2, vl, cc, e1, x0, x1, x3, _, _⟩ := one_hunk O2.out V2.out D6.out
  obtain ⟨g', cap', G2', vl', cc', e2, _, _, _, y4, hl⟩ := one_hunk o6 h6 (Below.refl _ _)
  obtain ⟨hvl, hcl⟩ := hl (by decide)
  subst hvl
  cases e1
  cases e2
  have z1 := hcl 1 (.string bC) rfl
  obtain ⟨g4, rfl⟩ : ∃ g, A4 = some ⟨g, 0, none⟩ := by
    rcases O6.out.2 with ⟨_, e2⟩ | ⟨g, cap, cur, e, _⟩
    · cases e2
    · cases e; exact ⟨_, rfl⟩
  have s1 : w6.cell? ⟨g4, 1, none⟩ = some (.string bC) := by
    have := O6.out.cells (g := g4) rfl 1 (.string bC) rfl
    rw [add_zero_addr] at this
    exact this
  clear o6 h6 d6 TU hcl hl B5 D5 O5 O2 V2 R2 D6 O6
  have TX2 := Lib.hid (show Calls Tryd.prog 25 #[.slice (some ⟨g, 0, none⟩) 1 c2] w6 (fun e w' => e = .returned (.string bTxt) ∧ Below w6.heap.size w6 w') from TX.out)
  clear TX
  go_wp2_with (go_at_call 25; go_loud (with_reducible refine TX2.out.mono ?_); rintro e w7 ⟨rfl, d7⟩)
  go_ret
  exact ⟨rfl, B6.out.trans (d7.mono B6.out.size)⟩
end Go.Proofs.YtdpoeagmeiedcaaDoor
