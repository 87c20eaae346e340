/-
  The closed play 'known' of the patch answers true.
  rectolaw12.few: a text few and short.
  PatchHunks: hunks done as the document's are, whatever they are.
  rectolaw11.To: the document's edits as edits.
  Bounds of the hunks of a difference.
  Hunks as gaps and runs: what they are, done, and turned.
  Hunks of a difference: as runs of marks; done, they make the one text of the other.
  patch.turned, patch.Turned, of any hunks.
  What the law PatchAny wants: few lines of few bytes; bounds of a difference's hunks.
  rectoref11.Hunks: which edits lie near a change, as its marks say.
  rectoref11.Hunks: the row of hunks of which the last one grows.
-/
import Derived.Test.YtdpoeagmeiedcaaDoorUT
import Derived.Test.YtdpoeagmeiedcaaDoorFewLines
import Derived.Test.YtdpoeagmeiedcaaDoorTTold
import Derived.Test.YtdpoeagmeiedcaaDoorTI0
import Derived.Test.YtdpoeagmeiedcaaDoorUA
import Derived.Deep.AppendLies
import Derived.Deep.RegionLaw

namespace Go.Proofs.YtdpoeagmeiedcaaDoor
open Go Go.RowKit

abbrev bA : ByteArray := ⟨#[97, 10]⟩
abbrev bB : ByteArray := ⟨#[98, 10]⟩
abbrev bC : ByteArray := ⟨#[99, 10]⟩
abbrev bD : ByteArray := ⟨#[100, 10]⟩
abbrev l0 : List EdI := [(1, bA), (2, bB), (3, bC), (1, bD)]
abbrev H0 : Hk := ⟨1, 1, 1, 1, [(2, bB), (3, bC)]⟩
abbrev H1 : Hk := ⟨1, 1, 1, 1, [(2, bC), (3, bB)]⟩
abbrev bTxt : ByteArray := ⟨#[64, 64, 32, 45, 49, 44, 49, 32, 43, 49, 44, 49, 32, 64, 64, 10, 45, 98, 10, 43, 99, 10]⟩
theorem kp1 : hunksP l0 (min (0 : Int).toNat 16) = [H0] := by kernel_rfl
theorem kp2 : applyH [bA, bB, bD] [H0] 0 [] 0 = .inr [bA, bC, bD] := by decide +kernel
theorem kp3 : applyH [] [H0] 0 [] 0 = .inl (0, 4) := by decide +kernel
theorem kp4 : [H0].map turnH = [H1] := by kernel_rfl
theorem kp5 : (⟨(textL [H0]).toArray⟩ : ByteArray) = bTxt := by decide +kernel
theorem ok0 : ∀ h ∈ [H0], HkOk h := by
  intro h hh
  rw [List.mem_singleton] at hh
  subst hh
  exact ⟨by decide, by decide, by decide, by decide, by decide⟩
theorem two0 : ∀ h ∈ [H0], HkTwo h := by
  intro h hh
  rw [List.mem_singleton] at hh
  subst hh
  exact ⟨by decide, by decide, by decide, by decide, by decide, by decide⟩
theorem turn0 : ∀ x ∈ [H0], x.ls.length ≤ 1000 ∧ ∀ e ∈ x.ls, e.1 = 2 ∨ e.1 = 3 := by
  intro h hh
  rw [List.mem_singleton] at hh
  subst hh
  exact ⟨by decide, by decide⟩
theorem applied_ok {l : List ByteArray} {w w' : World} {e : Ending} (h : AppliedTo (.inr l) w e w') : ∃ v, e = .returned (.tuple #[v, .nilIface]) ∧ w'.ownsRow w.heap.size 9 1 v l.length (l.map Value.string) ∧ Below w.heap.size w w' := by
  rcases h with ⟨l', v, h1, h2, h3, h4⟩ | ⟨_, _, _, h1, _⟩
  · cases h1; exact ⟨v, h2, h3, h4⟩
  · cases h1
theorem applied_bad {i : Nat} {k : Int} {w w' : World} {e : Ending} (h : AppliedTo (.inl (i, k)) w e w') : ∃ F, e = .returned (.tuple #[.slice none 0 0, theFault F]) ∧ Blk w' F 102 #[.string bHunk, .int .i64 (i : Int), .iface 97 (.int .i64 k)] ∧ Below w.heap.size w w' := by
  rcases h with ⟨_, _, h1, _⟩ | ⟨i', k', F, h1, h2, h3, h4⟩
  · cases h1
  · cases h1; exact ⟨F, h2, h3, h4⟩
theorem lit_eds (w : World) : Reads 2 cEd (w.alloc (.cells #[.int .i64 1, .string bA, .int .i64 2, .string bB, .int .i64 3, .string bC, .int .i64 1, .string bD] 66)) (.slice (some ⟨w.heap.size, 0, none⟩) 4 4) l0 :=
  Reads.of_own (base := w.heap.size) (e := 66) cEd_len ⟨rfl, .inr ⟨w.heap.size, 4, _, rfl, Nat.le_refl _, heap_alloc_new w _, Nat.le_refl _, by unfold maxLen; omega, rfl, rfl⟩⟩
theorem lit_strs (w : World) : Strs (w.alloc (.cells #[.string bA, .string bB, .string bD] 9)) (.slice (some ⟨w.heap.size, 0, none⟩) 3 3) [bA, bB, bD] := by
  refine ⟨some ⟨w.heap.size, 0, none⟩, 3, rfl, Nat.le_refl _, by unfold maxLen; omega, (fun h => by cases h), ?_⟩
  intro ad ha i s hs
  obtain rfl := Option.some.inj ha
  rw [add_zero_addr]
  have h := cell_of_row _ w.heap.size i _ 9 (0, 0) (heap_alloc_new w (.cells #[.string bA, .string bB, .string bD] 9))
  rw [h]
  match i, hs with
  | 0, hs => simp at hs; subst hs; rfl
  | 1, hs => simp at hs; subst hs; rfl
  | 2, hs => simp at hs; subst hs; rfl
  | i + 3, hs => simp at hs
/-- One hunk in a row of the call's own: its five cells, and where its lines are. -/
theorem one_hunk {w w' : World} {B : Nat} {v : Value} {vals : List Value} {h : Hk} (ho : w.ownsRow B 64 5 v 1 vals) (hv : HkV 66 w B vals [h]) (hb : Below w.heap.size w w') :
    ∃ (g cap A2 : Nat) (vl : Value) (c2 : Nat), v = .slice (some ⟨g, 0, none⟩) 1 cap ∧ w'.cell? ⟨g, 0, none⟩ = some (.int .i64 h.at_) ∧ w'.cell? ⟨g, 1, none⟩ = some (.int .i64 h.del) ∧ w'.cell? ⟨g, 3, none⟩ = some (.int .i64 h.add) ∧ w'.cell? ⟨g, 4, none⟩ = some vl ∧
      (h.ls ≠ [] → vl = .slice (some ⟨A2, 0, none⟩) h.ls.length c2 ∧ ∀ (j : Nat) u, (h.ls.flatMap cEd)[j]? = some u → w'.cell? ⟨A2, j, none⟩ = some u) := by
  obtain ⟨vl, rest, hvals, hl, hrest⟩ := hv
  obtain rfl : rest = [] := hrest
  subst hvals
  rcases ho.2 with ⟨_, e2⟩ | ⟨g, cap, cur, rfl, _⟩
  · cases e2
  · have k : ∀ (j : Nat) u, [Value.int .i64 h.at_, .int .i64 h.del, .int .i64 h.to_, .int .i64 h.add, vl][j]? = some u → w'.cell? ⟨g, j, none⟩ = some u := fun j u hu => by
      have := ho.cells (g := g) rfl j u hu
      rw [add_zero_addr] at this
      exact (hb.cell (World.block_lt_of_cell? _ _ this)).trans this
    rcases hl.2 with ⟨rfl, e2⟩ | ⟨g2, cap2, cur2, rfl, _⟩
    · exact ⟨g, cap, 0, _, 0, rfl, k 0 _ rfl, k 1 _ rfl, k 3 _ rfl, k 4 _ rfl, fun hn => absurd (List.eq_nil_of_length_eq_zero e2) hn⟩
    · refine ⟨g, cap, g2, _, cap2, rfl, k 0 _ rfl, k 1 _ rfl, k 3 _ rfl, k 4 _ rfl, fun _ => ⟨rfl, fun j u hu => ?_⟩⟩
      have := hl.cells (g := g2) rfl j u hu
      rw [add_zero_addr] at this
      exact (hb.cell (World.block_lt_of_cell? _ _ this)).trans this

set_option maxRecDepth 100000 in
set_option maxHeartbeats 8000000 in
theorem known12_yes (w : World) : Calls Tryd.prog 19 #[] w (YesB w) := by
  have b1 := (Below.refl w.heap.size w).alloc (Nat.le_refl _) (.cells #[.int .i64 1, .string bA, .int .i64 2, .string bB, .int .i64 3, .string bC, .int .i64 1, .string bD] 66)
  have HU := hunks_any _ _ l0 0 (lit_eds w) (by decide)
  rw [kp1] at HU
  have HU := Lib.hid HU
  go_enter Tryd.func19, Tryd.ntmps19
  go_wp2_with fail
  refine HU.out.mono ?_
  rintro e w2 ⟨v2, vals2, rfl, o2, h2, d2⟩
  have B2 := Lib.hid (b1.trans (d2.mono b1.size))
  have R2 := Lib.hid (HksIn.of_own o2 h2)
  have O2 := Lib.hid o2
  have V2 := Lib.hid h2
  obtain ⟨A2, c2, rfl⟩ := own_formP o2
  have b3 := (Below.refl w2.heap.size w2).alloc (Nat.le_refl _) (.cells #[.string bA, .string bB, .string bD] 9)
  have B3 := Lib.hid (B2.out.trans (b3.mono B2.out.size))
  have D3 := Lib.hid b3
  have AP := apply_any _ _ _ [bA, bB, bD] [H0] (lit_strs w2) (R2.out.below b3) (by decide) (by decide) ok0
  rw [kp2] at AP
  have AP := Lib.hid AP
  clear b1 HU o2 h2 d2 b3 B2
  go_wp2_with fail
  refine AP.out.mono ?_
  rintro e w4 h4
  obtain ⟨v4, rfl, o4, d4⟩ := applied_ok h4
  have D4 := Lib.hid (D3.out.trans (d4.mono D3.out.size))
  have B4 := Lib.hid (B3.out.trans (d4.mono B3.out.size))
  have O4 := Lib.hid o4
  have AQ := apply_any w4 (.slice none 0 0) _ [] [H0] (Strs.nil w4) (R2.out.below D4.out) (by decide) (by decide) ok0
  rw [kp3] at AQ
  have AQ := Lib.hid AQ
  obtain ⟨A4, c4, rfl⟩ := own_formP o4
  clear h4 o4 d4 AP B3 D3
  go_wp2_with fail
  refine AQ.out.mono ?_
  rintro e w5 h5
  obtain ⟨F, rfl, _, d5⟩ := applied_bad h5
  have D5 := Lib.hid (D4.out.trans (d5.mono D4.out.size))
  have B5 := Lib.hid (B4.out.trans (d5.mono B4.out.size))
  have O5 := Lib.hid (own2_keep O4.out d5)
  have TU := turnedH_any w5 _ [H0] (R2.out.below D5.out) (by decide) turn0
  rw [kp4] at TU
  have TU := Lib.hid TU
  clear h5 d5 AQ B4 D4 O4
  go_wp2_with fail
  refine TU.out.mono ?_
  rintro e w6 ⟨v6, vals6, rfl, o6, h6, d6⟩
  have D6 := Lib.hid (D5.out.trans (d6.mono D5.out.size))
  have B6 := Lib.hid (B5.out.trans (d6.mono B5.out.size))
  have O6 := Lib.hid (own2_keep O5.out d6)
  have TX := ptext_any w6 _ [H0] (R2.out.below D6.out) (by decide) two0
  rw [kp5] at TX
  have TX := Lib.hid TX
  obtain ⟨g, cap, G2, vl, cc, e1, x0, x1, x3, _, _⟩ := one_hunk O2.out V2.out D6.out
  obtain ⟨g', cap', G2', vl', cc', e2, _, _, _, y4, hl⟩ := one_hunk o6 h6 (Below.refl _ _)
  obtain ⟨hvl, hcl⟩ := hl (by decide)
  subst hvl
  cases e1
  cases e2
  have z1 := hcl 1 (.string bC) rfl
  obtain ⟨g4, rfl⟩ : ∃ g, A4 = some ⟨g, 0, none⟩ := by
    rcases O6.out.2 with ⟨_, e2⟩ | ⟨g, cap, cur, e, _⟩
    · cases e2
    · cases e; exact ⟨_, rfl⟩
  have s1 : w6.cell? ⟨g4, 1, none⟩ = some (.string bC) := by
    have := O6.out.cells (g := g4) rfl 1 (.string bC) rfl
    rw [add_zero_addr] at this
    exact this
  clear o6 h6 d6 TU hcl hl B5 D5 O5 O2 V2 R2 D6 O6
  have TX2 := Lib.hid (show Calls Tryd.prog 25 #[.slice (some ⟨g, 0, none⟩) 1 c2] w6 (fun e w' => e = .returned (.string bTxt) ∧ Below w6.heap.size w6 w') from TX.out)
  clear TX
  go_wp2_with (go_at_call 25; go_loud (with_reducible refine TX2.out.mono ?_); rintro e w7 ⟨rfl, d7⟩)
  go_ret
  exact ⟨rfl, B6.out.trans (d7.mono B6.out.size)⟩
end Go.Proofs.YtdpoeagmeiedcaaDoor

namespace Go.Proofs.YtdpoeagmeiedcaaDoor
open Go Go.RowKit

/-- It says so only of at most 50 lines. -/
def FewP (n m : Nat) (w : World) (e : Ending) (w' : World) : Prop := ∃ b : Bool, e = .returned (.bool b) ∧ (b = true → n ≤ 50 ∧ m ≤ 50) ∧ Below w.heap.size w w'
set_option maxRecDepth 100000 in
set_option maxHeartbeats 2000000 in
theorem few12_any (w : World) (v u : Value) (xs ys : List ByteArray) (h : Strs w v xs) (g : Strs w u ys) : Calls Tryd.prog 20 #[v, u] w (FewP xs.length ys.length w) := by
  have F := Lib.hid (few_any w v u xs ys h g)
  obtain ⟨A, n, c, rfl⟩ := h.form
  obtain ⟨B, m, d, rfl⟩ := g.form
  obtain rfl := h.len.1
  obtain rfl := g.len.1
  clear h g
  obtain ⟨n, hn⟩ : ∃ n, n = xs.length := ⟨_, rfl⟩
  obtain ⟨m, hm⟩ : ∃ m, m = ys.length := ⟨_, rfl⟩
  rw [← hn, ← hm] at F ⊢
  clear hn hm
  by_cases h1 : n ≤ 50
  · by_cases h2 : m ≤ 50
    · have i1 : (n : Int) ≤ 50 := by omega
      have i2 : (m : Int) ≤ 50 := by omega
      have HL := Lib.hid (And.intro h1 h2)
      clear h1 h2
      go_enter Tryd.func20, Tryd.ntmps20
      go_wp2_with fail
      refine F.out.mono ?_
      rintro e w2 ⟨b, rfl, _, rfl⟩
      go_wp2
      go_ret
      exact ⟨_, rfl, fun _ => HL.out, Below.refl _ _⟩
    · have i1 : (n : Int) ≤ 50 := by omega
      have i2 : ¬ (m : Int) ≤ 50 := by omega
      go_enter Tryd.func20, Tryd.ntmps20
      go_wp2
      go_ret
      exact ⟨_, rfl, (fun h => by first | cases h | simp at h), Below.refl _ _⟩
  · have i1 : ¬ (n : Int) ≤ 50 := by omega
    go_enter Tryd.func20, Tryd.ntmps20
    go_wp2
    go_ret
    exact ⟨_, rfl, (fun h => by first | cases h | simp at h), Below.refl _ _⟩

/-- Both say the same of a hunk that can't be done. -/
theorem tells_hunk (w : World) (F g i : Nat) (k : Int) (hi : i ≤ 9) (hk : k = 1 ∨ k = 2 ∨ k = 4 ∨ k = 9) (hF : Blk w F 102 #[.string bHunk, .int .i64 (i : Int), .iface 97 (.int .i64 k)]) (hg : Blk w g 104 #[.string bHunk, .int .i64 (i : Int)]) (hE : ErrType w) :
    Calls Tryd.prog 14 #[theFault F, wrongG g k] w (YesB w) :=
  tells_says w F g bHunk (dg i) i k hF hg (by decide) (by unfold dg; split; exact (show 1 ≤ 100 by decide); exact (show 2 ≤ 100 by decide)) (by unfold To14; omega) hE (fun W => itoa_0 i (by omega) W) (fun W => decimal_0 i (by omega) W)
theorem wrongH_in (a : List ByteArray) (h : Hk) (d m : Int) (hn : wrongH a h d m ≠ 0) : wrongH a h d m = 1 ∨ wrongH a h d m = 2 ∨ wrongH a h d m = 4 ∨ wrongH a h d m = 9 := by
  unfold wrongH at *
  split
  · simp
  · split
    · simp
    · split
      · simp
      · split
        · simp
        · exfalso; apply hn; simp_all
/-- Which hunk can't be done, and why. -/
theorem applyH_bad (a : List ByteArray) : ∀ (hs : List Hk) (d : Nat) (o : List ByteArray) (i j : Nat) (k : Int), applyH a hs d o i = .inl (j, k) → j < i + hs.length ∧ (k = 1 ∨ k = 2 ∨ k = 4 ∨ k = 9)
  | [], _, _, _, _, _, h => by cases h
  | x :: hs, d, o, i, j, k, h => by
    rw [applyH_cons] at h
    by_cases hw : wrongH a x d o.length ≠ 0
    · rw [if_pos hw] at h
      injection h with h
      injection h with h1 h2
      subst h1; subst h2
      exact ⟨by simp, wrongH_in _ _ _ _ hw⟩
    · rw [if_neg hw] at h
      have := applyH_bad a hs _ _ _ _ _ h
      exact ⟨by rw [List.length_cons]; omega, this.2⟩
end Go.Proofs.YtdpoeagmeiedcaaDoor

namespace Go.Proofs.YtdpoeagmeiedcaaDoor
open Go Go.RowKit

theorem dec_le {a b : Int} (h : a ≤ b) : decide (b < a) = false := decide_eq_false (by omega)
theorem dec_lt {a b : Int} (h : a < b) : decide (a < b) = true := decide_eq_true h
set_option maxRecDepth 100000 in
set_option maxHeartbeats 8000000 in
theorem patchHunks_walk (w : World) (v u : Value) (xs : List ByteArray) (hs : List Hk) (ha : Strs w v xs) (hh : HksIn w u hs) (hE : ErrType w) : Calls Tryd.prog 5 #[v, u] w (YesB w) := by
  obtain ⟨B, n, d, rfl⟩ := ha.form
  obtain ⟨A, c, rfl⟩ := hh.form
  obtain rfl := ha.len.1
  have hhc := hh.len.2.1
  have hhm : c ≤ 9223372036854775807 := by have := hh.len.2.2; unfold maxLen at this; omega
  have HA := Lib.hid ha
  have HH := Lib.hid hh
  have E0 := Lib.hid hE
  have KN := Lib.hid (known12_yes w)
  clear ha hh hE
  go_enter Tryd.func5, Tryd.ntmps5
  go_wp2_with fail
  refine KN.out.mono ?_
  rintro e w1 ⟨rfl, b1⟩
  have B1 := Lib.hid b1
  have FW := Lib.hid (few12_any w1 _ _ xs [] (HA.out.below b1) (Strs.nil w1))
  clear b1 KN
  go_wp2_with fail
  refine FW.out.mono ?_
  rintro e w2 ⟨b, rfl, hb, d2⟩
  have B2 := Lib.hid (B1.out.trans (d2.mono B1.out.size))
  have HB := Lib.hid hb
  clear hb d2 B1 FW
  cases b with
  | false =>
    go_wp2
    go_ret
    exact ⟨rfl, B2.out⟩
  | true =>
    have lx := (HB.out rfl).1
    clear HB
    by_cases h10 : 10 < hs.length
    · have i10 : (10 : Int) < (hs.length : Int) := by omega
      go_wp2
      go_ret
      exact ⟨rfl, B2.out⟩
    · have i10 : ¬ (10 : Int) < (hs.length : Int) := by omega
      go_wp2_with fail
      go_loopw [5] (fun s5 wr => ∃ i : Nat, i ≤ hs.length ∧ s5 = .int .i64 i ∧ Hid (∀ x ∈ hs.take i, HkOk x) ∧ Below w2.heap.size w2 wr) (fun s5 _ => hs.length - (intOf s5).toNat)
      case atStart => exact ⟨0, Nat.zero_le _, rfl, Lib.hid (fun x hx => by simp at hx), Below.refl _ _⟩
      case round =>
        obtain ⟨i, hil, rfl, hok, hb⟩ := hrel
        have i0 : (0 : Int) ≤ (i : Int) := Int.natCast_nonneg _
        by_cases hlt : i < hs.length
        · have i1 : (i : Int) < (hs.length : Int) := by omega
          obtain ⟨x, hx⟩ : ∃ x, hs[i]? = some x := ⟨_, List.getElem?_eq_getElem hlt⟩
          have hbw := B2.out.trans (hb.mono B2.out.size)
          obtain ⟨ad, vl, rfl, c0, c1, c2, c3, c4, hrd⟩ := HH.out.at2 hbw hx
          have HX := Lib.hid hx
          obtain ⟨at_, del, to_, add, ls⟩ := x
          simp only at c0 c1 c2 c3 hrd
          obtain ⟨Al, cl, rfl⟩ := hrd.form
          have hb1 := hb.alloc hb.size (.cells #[.int .i64 at_, .int .i64 del, .int .i64 to_, .int .i64 add, .slice Al ls.length cl] 64)
          have KX := Lib.hid (Blk.new wr 64 #[.int .i64 at_, .int .i64 del, .int .i64 to_, .int .i64 add, .slice Al ls.length cl])
          have HL4 := Lib.hid (hrd.below (B2.out.trans (hb1.mono B2.out.size)))
          have hlc := hrd.len.2.1
          have hlm : cl ≤ 9223372036854775807 := by have := hrd.len.2.2; unfold maxLen at this; omega
          have HB4 := Lib.hid hb1
          clear hx hrd hb1 hb hbw
          go_upto_region 9 with fail
          generalize hX : wr.heap.size = X at *
          generalize hW : wr.alloc (.cells #[.int .i64 at_, .int .i64 del, .int .i64 to_, .int .i64 add, .slice Al ls.length cl] 64) = W at *
          clear hX hW c0 c1 c2 c3 c4
          have e0 := KX.out.cell 0
          have e2 := KX.out.cell 2
          have e4 := KX.out.cell 4
          by_cases h1 : 50 < ls.length
          · have j1 : (50 : Int) < (ls.length : Int) := by omega
            go_wp2
            go_ret
            exact ⟨rfl, B2.out.trans (HB4.out.mono B2.out.size)⟩
          have j1 : ¬ (50 : Int) < (ls.length : Int) := by omega
          have k1 : decide ((50 : Int) < (ls.length : Int)) = false := decide_eq_false j1
          by_cases h2 : at_ < -1099511627776
          · have k2 := dec_lt h2
            go_wp2
            go_ret
            exact ⟨rfl, B2.out.trans (HB4.out.mono B2.out.size)⟩
          have k2 : decide (at_ < -1099511627776) = false := decide_eq_false h2
          by_cases h3 : 1099511627776 < at_
          · have k3 := dec_lt h3
            go_wp2
            go_ret
            exact ⟨rfl, B2.out.trans (HB4.out.mono B2.out.size)⟩
          have k3 : decide (1099511627776 < at_) = false := decide_eq_false h3
          by_cases h4 : to_ < -1099511627776
          · have k4 := dec_lt h4
            go_wp2
            go_ret
            exact ⟨rfl, B2.out.trans (HB4.out.mono B2.out.size)⟩
          have k4 : decide (to_ < -1099511627776) = false := decide_eq_false h4
          by_cases h5 : 1099511627776 < to_
          · have k5 := dec_lt h5
            go_wp2
            go_ret
            exact ⟨rfl, B2.out.trans (HB4.out.mono B2.out.size)⟩
          have k5 : decide (1099511627776 < to_) = false := decide_eq_false h5
          have HOKX : Hid (HkOk ⟨at_, del, to_, add, ls⟩) := Lib.hid ⟨by show ls.length ≤ 200; omega, by show _ ≤ at_; omega, by show at_ ≤ _; omega, by show _ ≤ to_; omega, by show to_ ≤ _; omega⟩
          clear h1 h2 h3 h4 h5
          go_wp2_with fail
          go_loopw [7] (fun s7 wr => ∃ k : Nat, k ≤ ls.length ∧ s7 = .int .i64 k ∧ wr = W) (fun s7 _ => ls.length - (intOf s7).toNat)
          case atStart => exact ⟨0, Nat.zero_le _, rfl, rfl⟩
          case round =>
            obtain ⟨k, hkl, rfl, rfl⟩ := hrel
            have z0 : (0 : Int) ≤ (k : Int) := Int.natCast_nonneg _
            clear j1 k1 k2 k3 k4 k5 e0 e2
            by_cases hlt2 : k < ls.length
            · have z1 : (k : Int) < (ls.length : Int) := by omega
              obtain ⟨y, hy⟩ : ∃ y, ls[k]? = some y := ⟨_, List.getElem?_eq_getElem hlt2⟩
              obtain ⟨ad2, rfl, x0, x1⟩ := Eds.at_ HL4.out hy
              obtain ⟨o, t⟩ := y
              simp only at x0 x1
              clear hy
              by_cases h6 : 300 < t.size
              · have z2 : (300 : Int) < (t.size : Int) := by omega
                go_wp2
                go_ret
                exact ⟨rfl, B2.out.trans (HB4.out.mono B2.out.size)⟩
              · have z2 : ¬ (300 : Int) < (t.size : Int) := by omega
                go_wp2
                go_roundw
                case rel => exact ⟨k + 1, by omega, by go_num, by trivial⟩
                case measure => simp [intOf]; omega
            · obtain rfl : k = ls.length := by omega
              go_wp2
              go_roundw
              case rel => exact ⟨i + 1, by omega, by go_num, Lib.hid (by rw [take_snocP HX.out]; intro x hx; rcases List.mem_append.1 hx with h | h; exact hok.out x h; rw [List.mem_singleton] at h; subst h; exact HOKX.out), HB4.out⟩
              case measure => simp [intOf]; omega
        · obtain rfl : i = hs.length := by omega
          have hok2 : ∀ x ∈ hs, HkOk x := by have := hok.out; rwa [List.take_length] at this
          have HOK := Lib.hid hok2
          have B3 := Lib.hid (B2.out.trans (hb.mono B2.out.size))
          have hm : wr.heap.size ≤ (wr.alloc (.cells #[] 9)).heap.size := by simp
          have O0 := Lib.hid (show (wr.alloc (.cells #[] 9)).ownsRow wr.heap.size 9 1 (.slice (some ⟨wr.heap.size, 0, none⟩) 0 0) ([] : List ByteArray).length (([] : List ByteArray).map Value.string) from World.ownsRow_made wr #[] 0 (Nat.le_refl _) (Nat.zero_le _) rfl)
          have b4 := (Below.refl wr.heap.size wr).alloc (Nat.le_refl _) (.cells #[] 9)
          have sK := HA.out.below (B3.out.trans (b4.mono B3.out.size))
          have hll : ([] : List ByteArray).length + xs.length ≤ 1000000 := by simp; omega
          clear hok hok2
          go_wp2_with (at_builtin; refine wpList_append_strs rfl (.tmp 72) (.tmp 73) rfl wr.heap.size _ [] rfl O0.out _ xs sK rfl hll hm ?_; intro v5 w5 own5 hg5 _)
          rw [List.nil_append] at own5
          have B5' := b4.grown hg5 hm (fun z hz => (O0.out.lt z hz).1)
          have B5 := Lib.hid (B3.out.trans (B5'.mono B3.out.size))
          have O5 := Lib.hid own5
          obtain ⟨A5, c5, rfl⟩ := own_formP own5
          clear own5 hg5 B5' sK b4 O0
          rcases hR : applyH xs hs 0 [] 0 with ⟨j, k⟩ | l
          · have HJ := applyH_bad xs hs 0 [] 0 j k hR
            have hj9 : j ≤ 9 := by omega
            have hk4 := Lib.hid HJ.2
            have AP := apply_any w5 _ _ xs hs (HA.out.below B5.out) (HH.out.below B5.out) (by omega) (by omega) HOK.out
            have RA := fun W (u : Value) h1 h2 => refApply_any W (.slice B xs.length d) u xs hs h1 h2 (by omega) (by omega) HOK.out
            rw [hR] at AP
            simp only [hR] at RA
            have AP := Lib.hid AP
            have RA := Lib.hid RA
            clear hR HJ
            go_wp2_with fail
            refine AP.out.mono ?_
            rintro e w6 h6
            obtain ⟨F, rfl, f6, d6⟩ := applied_bad h6
            have B6 := Lib.hid (B5.out.trans (d6.mono B5.out.size))
            have F6 := Lib.hid f6
            have O6 := Lib.hid (own2_keep O5.out d6)
            clear h6 f6 d6 AP O5
            go_wp2_with fail
            refine (ofHk_any w6 _ hs (HH.out.below B6.out) (by omega) (fun x hx => by have := (HOK.out x hx).l; omega)).mono ?_
            rintro e w7 ⟨v7, vals7, rfl, o7, h7, d7⟩
            have B7 := Lib.hid (B6.out.trans (d7.mono B6.out.size))
            have F7 := Lib.hid (F6.out.below d7 F6.out.lt)
            have O7 := Lib.hid (own2_keep O6.out d7)
            have RX := Lib.hid (RA.out w7 v7 (HA.out.below B7.out) (HksIn.of_own o7 h7))
            clear o7 h7 d7 O6 F6 RA
            go_wp2_with fail
            refine RX.out.mono ?_
            rintro e w8 (⟨_, _, h, _⟩ | ⟨j', k', g, hjk, rfl, hg, d8⟩)
            · cases h
            cases hjk
            have B8 := Lib.hid (B7.out.trans (d8.mono B7.out.size))
            have F8 := Lib.hid (F7.out.below d8 F7.out.lt)
            have O8 := Lib.hid (own2_keep O7.out d8)
            have b9 := (Below.refl w8.heap.size w8).alloc (Nat.le_refl _) (.cells #[.slice (some ⟨g, 0, none⟩) 1 1, .int .i64 k] 33)
            have B9 := Lib.hid (B8.out.trans (b9.mono B8.out.size))
            have TL := Lib.hid (tells_hunk _ F g j k hj9 hk4.out (F8.out.below b9 F8.out.lt) (hg.below b9 hg.lt) (E0.out.below B9.out))
            have O9 := Lib.hid (own2_keep O8.out b9)
            clear hg d8 b9 RX F7 O7 F8 O8
            go_wp2_with fail
            refine TL.out.mono ?_
            rintro e w10 ⟨rfl, d10⟩
            have B10 := Lib.hid (B9.out.trans (d10.mono B9.out.size))
            have O10 := Lib.hid (own2_keep O9.out d10)
            clear d10 TL O9 B9
            go_wp2_with fail
            refine (refEqual_any w10 _ _ ([] : List ByteArray) ([] : List ByteArray) (Strs.nil _) (Strs.nil _)).mono ?_
            rintro e w11 ⟨n1, rfl, rfl⟩
            go_wp2_with fail
            refine (refEqual_any (w10.drewN n1) _ _ xs xs ((HA.out.below B10.out).drewN _) ((Strs.of_own O10.out rfl).drewN _)).mono ?_
            rintro e w12 ⟨n2, rfl, rfl⟩
            rw [decide_eq_true (rfl : xs = xs)]
            go_wp2
            go_ret
            exact ⟨rfl, below_drewN B10.out _⟩
          · have AP := apply_any w5 _ _ xs hs (HA.out.below B5.out) (HH.out.below B5.out) (by omega) (by omega) HOK.out
            have RA := fun W (u : Value) h1 h2 => refApply_any W (.slice B xs.length d) u xs hs h1 h2 (by omega) (by omega) HOK.out
            rw [hR] at AP
            simp only [hR] at RA
            have AP := Lib.hid AP
            have RA := Lib.hid RA
            clear hR
            go_wp2_with fail
            refine AP.out.mono ?_
            rintro e w6 h6
            obtain ⟨v6, rfl, own6, d6⟩ := applied_ok h6
            have B6 := Lib.hid (B5.out.trans (d6.mono B5.out.size))
            have P6 := Lib.hid own6
            obtain ⟨A6, c6, rfl⟩ := own_formP own6
            have O6 := Lib.hid (own2_keep O5.out d6)
            clear h6 own6 d6 AP O5
            go_wp2_with fail
            refine (ofHk_any w6 _ hs (HH.out.below B6.out) (by omega) (fun x hx => by have := (HOK.out x hx).l; omega)).mono ?_
            rintro e w7 ⟨v7, vals7, rfl, o7, h7, d7⟩
            have B7 := Lib.hid (B6.out.trans (d7.mono B6.out.size))
            have P7 := Lib.hid (own2_keep P6.out d7)
            have O7 := Lib.hid (own2_keep O6.out d7)
            have RX := Lib.hid (RA.out w7 v7 (HA.out.below B7.out) (HksIn.of_own o7 h7))
            clear o7 h7 d7 O6 P6 RA
            go_wp2_with fail
            refine RX.out.mono ?_
            rintro e w8 (⟨l', v8, hl8, rfl, own8, d8⟩ | ⟨_, _, _, h, _⟩)
            case inr => cases h
            cases hl8
            obtain ⟨A8, c8, rfl⟩ := own_formP own8
            have B8 := Lib.hid (B7.out.trans (d8.mono B7.out.size))
            have P8 := Lib.hid (own2_keep P7.out d8)
            have O8 := Lib.hid (own2_keep O7.out d8)
            have b9 := (Below.refl w8.heap.size w8).alloc (Nat.le_refl _) (.cells #[.slice none 0 0, .int .i64 0] 33)
            have B9 := Lib.hid (B8.out.trans (b9.mono B8.out.size))
            have TL := Lib.hid (tells_none (w8.alloc (.cells #[.slice none 0 0, .int .i64 0] 33)))
            have O9 := Lib.hid (own2_keep O8.out b9)
            have P9 := Lib.hid (own2_keep P8.out b9)
            have Q9 := Lib.hid (own2_keep own8 b9)
            clear own8 d8 b9 RX P7 O7 P8 O8
            go_wp2_with fail
            refine TL.out.mono ?_
            rintro e w10 ⟨rfl, d10⟩
            have B10 := Lib.hid (B9.out.trans (d10.mono B9.out.size))
            have O10 := Lib.hid (own2_keep O9.out d10)
            have P10 := Lib.hid (own2_keep P9.out d10)
            have Q10 := Lib.hid (own2_keep Q9.out d10)
            clear d10 TL O9 P9 Q9 B9
            go_wp2_with fail
            refine (refEqual_any w10 _ _ l l (Strs.of_own P10.out rfl) (Strs.of_own Q10.out rfl)).mono ?_
            rintro e w11 ⟨n1, rfl, rfl⟩
            go_wp2_with fail
            refine (refEqual_any (w10.drewN n1) _ _ xs xs ((HA.out.below B10.out).drewN _) ((Strs.of_own O10.out rfl).drewN _)).mono ?_
            rintro e w12 ⟨n2, rfl, rfl⟩
            rw [decide_eq_true (rfl : xs = xs)]
            go_wp2
            go_ret
            exact ⟨rfl, below_drewN B10.out _⟩
end Go.Proofs.YtdpoeagmeiedcaaDoor

namespace Go.Proofs.YtdpoeagmeiedcaaDoor
open Go Go.RowKit

set_option maxRecDepth 100000 in
set_option maxHeartbeats 4000000 in
theorem toEd_any (w : World) (v : Value) (l : List EdI) (h : Reads 2 cEd w v l) (hl : l.length ≤ 1000) :
    Calls Tryd.prog 22 #[v] w (OwnTo 66 2 cEd l w) := by
  obtain ⟨A, c, rfl⟩ := h.form
  have hnm : c ≤ 9223372036854775807 := by have := h.len.2.2; unfold maxLen at this; omega
  have HO := Lib.hid h
  obtain ⟨i0, hi, hz0, hz1, hz2⟩ := info_parts editInfo
  clear h
  go_enter Tryd.func22, Tryd.ntmps22
  go_wp2_with fail
  go_loopw [3, 4] (fun s3 s4 wr => ∃ i : Nat, i ≤ l.length ∧ s4 = .int .i64 i ∧ Hid (wr.ownsRow w.heap.size 66 2 s3 i ((l.take i).flatMap cEd)) ∧ Hid (Below w.heap.size w wr)) (fun _ s4 _ => l.length - (intOf s4).toNat)
  case atStart => exact ⟨0, Nat.zero_le _, rfl, Lib.hid (World.ownsRow_nil _ _ _ _), Below.refl _ _⟩
  case round =>
    obtain ⟨i, hil, rfl, hown, hb⟩ := hrel
    have i0' : (0 : Int) ≤ (i : Int) := Int.natCast_nonneg _
    by_cases hlt : i < l.length
    · obtain ⟨x, hx⟩ : ∃ x, l[i]? = some x := ⟨_, List.getElem?_eq_getElem hlt⟩
      obtain ⟨ad, rfl, c0, c1⟩ := Eds.at_ (HO.out.below hb.out) hx
      obtain ⟨o, s⟩ := x
      have HF := Lib.hid hx
      have hi1 : (i : Int) < (l.length : Int) := by omega
      have hsz := hb.out.size
      obtain ⟨vals, hvals⟩ : ∃ vs, vs = (l.take i).flatMap cEd := ⟨_, rfl⟩
      rw [← hvals] at hown
      have HV := Lib.hid hvals
      clear hx hvals
      go_upto_block 1 with fail
      go_cut [3] (fun x3 wy => Hid (wy.ownsRow w.heap.size 66 2 x3 (i + 1) ((l.take (i + 1)).flatMap cEd)) ∧ Hid (Below w.heap.size w wy))
      case first =>
        go_wp2_with fail
        go_region_law ((refine step_append_lies _ (by rfl) _ _ _ (by rfl) w.heap.size 66 i0 _ 2 24 Tryd.underlying25 hi hz0 hz1 hz2 rfl (by omega) _ i vals (by rfl) ((hown.out.alloc _).drew) ⟨wr.heap.size, 0, none⟩ 1 1 [.int .i64 o, .string s] (by rfl) (by rfl) (World.news_of_block (cs := #[.int .i64 o, .string s]) (t := 66) (fr := (0, 0)) (heap_alloc_new wr _)) (by simp [Value.oneCell']) (by omega) (by unfold maxLen; omega) (by omega) (by simp; omega) (wr.heap.size + 1) (by simp) ?_; intro gg cap w3 hown1 hgrow hat hlt2))
        all_goals
          go_wp2_with fail
          change Met _ (Act.put _ (some 3) _) _
          simp only [Act.put, List.setIfInBounds_toArray, List.set_cons_zero, List.set_cons_succ]
          go_meet
          exact ⟨Lib.hid (by rw [take_snocP HF.out, flat_snocP, ← HV.out]; exact hown1), Lib.hid (((hb.out.alloc hsz _).drew).grown hgrow (by simp; omega) (fun z hz => (hown.out.lt z hz).1))⟩
      case rest =>
        obtain ⟨h1, h2⟩ := hcut
        go_wp2
        go_roundw
        case rel => exact ⟨i + 1, by omega, by go_num, h1, h2⟩
        case measure => simp [intOf]; omega
    · obtain rfl : i = l.length := by omega
      have HL : Hid ((l.take l.length).flatMap cEd = l.flatMap cEd) := Lib.hid (by rw [List.take_length])
      go_wp2
      go_ret
      exact ⟨_, rfl, by rw [← HL.out]; exact hown.out, hb.out⟩
end Go.Proofs.YtdpoeagmeiedcaaDoor

namespace Go.Proofs.YtdpoeagmeiedcaaDoor
open Go Go.RowKit

theorem cutE_le (l : List EdI) (i j : Nat) : (cutE l i j).length ≤ l.length := by unfold cutE; rw [List.length_take, List.length_drop]; omega
theorem rowsF_many (a n : Nat) : ∀ (l : List EdI) (out : List HRw) (i : Nat), (rowsF a n out i l).length ≤ out.length + l.length
  | [], out, _ => by show out.length ≤ _; simp
  | e :: l, out, i => by
    have h := rowsF_many a n l (if e.1 = 1 then out else addR out (i - a) (min (i + 1 + a) n)) (i + 1)
    have h2 := addR_le out (i - a) (min (i + 1 + a) n)
    have h3 : (rowsF a n out i (e :: l)) = rowsF a n (if e.1 = 1 then out else addR out (i - a) (min (i + 1 + a) n)) (i + 1) l := rfl
    rw [h3, List.length_cons]
    split at h
    · rw [if_pos ‹_›]; omega
    · rw [if_neg ‹_›]; omega
theorem hunksF_len (l : List EdI) : ∀ (rs : List HRw) (p t d : Nat), (hunksF l p t d rs).length = rs.length
  | [], _, _, _ => rfl
  | r :: rs, p, t, d => by
    show (_ :: hunksF l _ _ _ rs).length = _
    rw [List.length_cons, List.length_cons, hunksF_len l rs]
theorem hunksF_ok (l : List EdI) (hl : l.length ≤ 200) : ∀ (rs : List HRw) (p t d : Nat), p + rs.length * 400 ≤ 1000000 → t + rs.length * 400 ≤ 1000000 → ∀ h ∈ hunksF l p t d rs, HkOk h
  | [], _, _, _, _, _, h, hh => by cases hh
  | r :: rs, p, t, d, hp, ht, h, hh => by
    have c1 := dels_le (cutE l d r.1)
    have c2 := dels_le (cutE l r.1 r.2)
    have c3 := adds_le (cutE l d r.1)
    have c4 := adds_le (cutE l r.1 r.2)
    have c5 := cutE_le l d r.1
    have c6 := cutE_le l r.1 r.2
    rw [List.length_cons] at hp ht
    rcases List.mem_cons.1 (show h ∈ _ :: hunksF l (p + dels (cutE l d r.1) + dels (cutE l r.1 r.2)) (t + adds (cutE l d r.1) + adds (cutE l r.1 r.2)) r.2 rs from hh) with rfl | hm
    · exact ⟨by show (cutE l r.1 r.2).length ≤ 200; omega, by show (-1099511627776 : Int) ≤ ((p + dels (cutE l d r.1) : Nat) : Int); omega, by show ((p + dels (cutE l d r.1) : Nat) : Int) ≤ 1099511627776; omega,
        by show (-1099511627776 : Int) ≤ ((t + adds (cutE l d r.1) : Nat) : Int); omega, by show ((t + adds (cutE l d r.1) : Nat) : Int) ≤ 1099511627776; omega⟩
    · exact hunksF_ok l hl rs _ _ _ (by omega) (by omega) h hm
theorem hunksP_ok (l : List EdI) (a : Nat) (hl : l.length ≤ 100) : (hunksP l a).length ≤ 100 ∧ ∀ h ∈ hunksP l a, HkOk h := by
  have h := rowsF_many a l.length l [] 0
  simp only [List.length_nil, Nat.zero_add] at h
  exact ⟨by unfold hunksP; rw [hunksF_len]; omega, hunksF_ok l (by omega) _ _ _ _ (by omega) (by omega)⟩
/-- The edits that a difference is, as a hunk's. -/
def edI (l : List (Nat × ByteArray)) : List EdI := l.map fun e => ((e.1 : Int), e.2)
theorem edI_len (l : List (Nat × ByteArray)) : (edI l).length = l.length := by unfold edI; simp
theorem edI_cells (l : List (Nat × ByteArray)) : (edI l).flatMap cEd = edCells l := by
  unfold edI edCells
  rw [List.flatMap_map]
  rfl
end Go.Proofs.YtdpoeagmeiedcaaDoor

namespace Go.Proofs.YtdpoeagmeiedcaaDoor
open Go Go.RowKit

/-! ### Rows that lie apart -/
def RowsSep (n : Nat) : Nat → List HRw → Prop
  | _, [] => True
  | d, r :: rs => d ≤ r.1 ∧ r.1 < r.2 ∧ r.2 ≤ n ∧ RowsSep n (r.2 + 1) rs
theorem RowsSep.snoc {n : Nat} {r : HRw} (h2 : r.1 < r.2) (h3 : r.2 ≤ n) : ∀ {d : Nat} {out : List HRw}, RowsSep n d out → (∀ x ∈ out, x.2 < r.1) → d ≤ r.1 → RowsSep n d (out ++ [r])
  | _, [], _, _, hd => ⟨hd, h2, h3, trivial⟩
  | _, x :: _, ⟨a, b, c, h⟩, hx, _ => ⟨a, b, c, RowsSep.snoc h2 h3 h (fun y hy => hx y (List.mem_cons_of_mem _ hy)) (hx x List.mem_cons_self)⟩
theorem RowsSep.init {n : Nat} {r : HRw} : ∀ {d : Nat} {out : List HRw}, RowsSep n d (out ++ [r]) → RowsSep n d out ∧ d ≤ r.1 ∧ r.1 < r.2 ∧ r.2 ≤ n ∧ ∀ x ∈ out, x.2 < r.1
  | _, [], ⟨a, b, c, _⟩ => ⟨trivial, a, b, c, by simp⟩
  | _, x :: out, ⟨a, b, c, h⟩ => by
    obtain ⟨h1, h2, h3, h5, h4⟩ := RowsSep.init h
    refine ⟨⟨a, b, c, h1⟩, by omega, h3, h5, fun y hy => ?_⟩
    rcases List.mem_cons.1 hy with rfl | hy
    · exact h2
    · exact h4 y hy
theorem RowsSep.ok {n : Nat} : ∀ {rs : List HRw} {d d' : Nat}, RowsSep n d rs → d' ≤ d → RowsOk n d' rs
  | [], _, _, _, _ => trivial
  | r :: _, _, _, ⟨a, b, c, h⟩, hd => ⟨by omega, by omega, c, h.ok (by omega)⟩
def InR (rs : List HRw) (k : Nat) : Prop := ∃ r ∈ rs, r.1 ≤ k ∧ k < r.2
theorem InR.ge {n : Nat} {k : Nat} : ∀ {rs : List HRw} {d : Nat}, RowsSep n d rs → InR rs k → d ≤ k
  | [], _, _, ⟨_, hr, _⟩ => by cases hr
  | r :: rs, d, ⟨a, b, c, h⟩, ⟨x, hx, h1, h2⟩ => by
    rcases List.mem_cons.1 hx with rfl | hx
    · omega
    · have := InR.ge h ⟨x, hx, h1, h2⟩; omega
theorem inR_snoc (out : List HRw) (r : HRw) (k : Nat) : InR (out ++ [r]) k ↔ InR out k ∨ (r.1 ≤ k ∧ k < r.2) := by
  unfold InR
  constructor
  · rintro ⟨x, hx, h⟩
    rcases List.mem_append.1 hx with hx | hx
    · exact .inl ⟨x, hx, h⟩
    · rw [List.mem_singleton] at hx; subst hx; exact .inr h
  · rintro (⟨x, hx, h⟩ | h)
    · exact ⟨x, List.mem_append.2 (.inl hx), h⟩
    · exact ⟨r, by simp, h⟩
theorem addR_sep {n b e : Nat} {out : List HRw} (h : RowsSep n 0 out) (hb : ∀ r ∈ out, r.1 ≤ b ∧ r.2 ≤ e) (hbe : b < e) (hen : e ≤ n) :
    RowsSep n 0 (addR out b e) ∧ (∀ r ∈ addR out b e, r.1 ≤ b ∧ r.2 ≤ e) ∧ ∀ k, InR (addR out b e) k ↔ InR out k ∨ (b ≤ k ∧ k < e) := by
  rcases List.eq_nil_or_concat out with rfl | ⟨pre, ⟨p, q⟩, rfl⟩
  · rw [addR_nil]
    refine ⟨⟨Nat.zero_le _, hbe, hen, trivial⟩, fun r hr => ?_, fun k => ?_⟩
    · rw [List.mem_singleton] at hr; subst hr; exact ⟨Nat.le_refl _, Nat.le_refl _⟩
    · have := inR_snoc [] (b, e) k
      simpa using this
  · rw [List.concat_eq_append] at h hb ⊢
    rw [addR_snoc]
    obtain ⟨h1, h2, h3, h5, h4⟩ := h.init
    have hp := hb (p, q) (by simp)
    simp only at h3 h4 h5 hp
    split
    · refine ⟨RowsSep.snoc (by show p < e; omega) hen h1 h4 (Nat.zero_le _), fun r hr => ?_, fun k => ?_⟩
      · rcases List.mem_append.1 hr with hr | hr
        · exact hb r (List.mem_append.2 (.inl hr))
        · rw [List.mem_singleton] at hr; subst hr; exact ⟨hp.1, Nat.le_refl _⟩
      · rw [inR_snoc, inR_snoc]
        simp only
        constructor
        · rintro (h | h)
          · exact .inl (.inl h)
          · by_cases hk : k < q
            · exact .inl (.inr ⟨h.1, hk⟩)
            · exact .inr ⟨by omega, h.2⟩
        · rintro ((h | h) | h)
          · exact .inl h
          · exact .inr ⟨h.1, by omega⟩
          · exact .inr ⟨by omega, h.2⟩
    · rename_i hbq
      refine ⟨RowsSep.snoc hbe hen h (fun x hx => ?_) (Nat.zero_le _), fun r hr => ?_, fun k => inR_snoc _ _ _⟩
      · show x.2 < b
        rcases List.mem_append.1 hx with hx | hx
        · have := h4 x hx; omega
        · rw [List.mem_singleton] at hx; subst hx; show q < b; omega
      · rcases List.mem_append.1 hr with hr | hr
        · exact hb r hr
        · rw [List.mem_singleton] at hr; subst hr; exact ⟨Nat.le_refl _, Nat.le_refl _⟩
theorem rowsF_in {a n : Nat} : ∀ (l : List EdI) (out : List HRw) (i : Nat), RowsSep n 0 out → (∀ r ∈ out, r.1 ≤ i - a ∧ r.2 ≤ min (i + 1 + a) n) → i + l.length ≤ n →
    RowsSep n 0 (rowsF a n out i l) ∧ ∀ k, InR (rowsF a n out i l) k ↔ InR out k ∨ ∃ (j : Nat) (x : EdI), l[j]? = some x ∧ x.1 ≠ 1 ∧ i + j - a ≤ k ∧ k < min (i + j + 1 + a) n
  | [], out, _, h, _, _ => ⟨h, fun k => ⟨fun h => .inl h, fun h => by
      rcases h with h | ⟨j, x, hx, _⟩
      · exact h
      · simp at hx⟩⟩
  | e :: l, out, i, h, hb, hk => by
    rw [List.length_cons] at hk
    unfold rowsF
    by_cases he : e.1 = 1
    · rw [if_pos he]
      obtain ⟨h1, h2⟩ := rowsF_in (a := a) l out (i + 1) h (fun r hr => by have := hb r hr; omega) (by omega)
      refine ⟨h1, fun k => ?_⟩
      rw [h2 k]
      constructor
      · rintro (h | ⟨j, x, hx, h1, h2, h3⟩)
        · exact .inl h
        · exact .inr ⟨j + 1, x, by simpa using hx, h1, by omega, by omega⟩
      · rintro (h | ⟨j, x, hx, h1, h2, h3⟩)
        · exact .inl h
        · cases j with
          | zero => simp at hx; subst hx; exact absurd he h1
          | succ j => exact .inr ⟨j, x, by simpa using hx, h1, by omega, by omega⟩
    · rw [if_neg he]
      obtain ⟨g1, g2, g3⟩ := addR_sep (b := i - a) (e := min (i + 1 + a) n) h hb (by omega) (by omega)
      obtain ⟨h1, h2⟩ := rowsF_in (a := a) l _ (i + 1) g1 (fun r hr => by have := g2 r hr; omega) (by omega)
      refine ⟨h1, fun k => ?_⟩
      rw [h2 k, g3 k]
      constructor
      · rintro ((h | h) | ⟨j, x, hx, h1, h2, h3⟩)
        · exact .inl h
        · exact .inr ⟨0, e, rfl, he, by omega, by omega⟩
        · exact .inr ⟨j + 1, x, by simpa using hx, h1, by omega, by omega⟩
      · rintro (h | ⟨j, x, hx, h1, h2, h3⟩)
        · exact .inl (.inl h)
        · cases j with
          | zero => exact .inl (.inr ⟨by omega, by omega⟩)
          | succ j => exact .inr ⟨j, x, by simpa using hx, h1, by omega, by omega⟩
/-- What lies near a change. -/
def NearC (l : List EdI) (a k : Nat) : Prop := ∃ (j : Nat) (x : EdI), l[j]? = some x ∧ x.1 ≠ 1 ∧ j ≤ k + a ∧ k ≤ j + a
theorem rowsF_near (l : List EdI) (a : Nat) : RowsSep l.length 0 (rowsF a l.length [] 0 l) ∧ ∀ k, k < l.length → (InR (rowsF a l.length [] 0 l) k ↔ NearC l a k) := by
  obtain ⟨h1, h2⟩ := rowsF_in (a := a) (n := l.length) l [] 0 trivial (by simp) (by omega)
  refine ⟨h1, fun k hk => ?_⟩
  rw [h2 k]
  constructor
  · rintro (⟨r, hr, _⟩ | ⟨j, x, hx, h1, h2, h3⟩)
    · cases hr
    · exact ⟨j, x, hx, h1, by omega, by omega⟩
  · rintro ⟨j, x, hx, h1, h2, h3⟩
    exact .inr ⟨j, x, hx, h1, by omega, by omega⟩

/-! ### Gaps and runs -/
abbrev Seg := List EdI × List EdI
def segsOf (l : List EdI) : Nat → List HRw → List Seg
  | _, [] => []
  | d, r :: rs => (cutE l d r.1, cutE l r.1 r.2) :: segsOf l r.2 rs
def endR : Nat → List HRw → Nat
  | d, [] => d
  | _, r :: rs => endR r.2 rs
def flatS : List Seg → List EdI → List EdI
  | [], t => t
  | s :: ss, t => s.1 ++ (s.2 ++ flatS ss t)
def hunksS : Nat → Nat → List Seg → List Hk
  | _, _, [] => []
  | p, t, s :: ss => ⟨((p + dels s.1 : Nat) : Int), (dels s.2 : Int), ((t + adds s.1 : Nat) : Int), (adds s.2 : Int), s.2⟩ :: hunksS (p + dels s.1 + dels s.2) (t + adds s.1 + adds s.2) ss
theorem hunksF_segs (l : List EdI) : ∀ (rs : List HRw) (p t d : Nat), hunksF l p t d rs = hunksS p t (segsOf l d rs)
  | [], _, _, _ => rfl
  | r :: rs, p, t, d => by
    show _ :: hunksF l _ _ _ rs = _ :: hunksS _ _ (segsOf l r.2 rs)
    rw [hunksF_segs l rs]
theorem cutE_drop (l : List EdI) {i j : Nat} (h : i ≤ j) : cutE l i j ++ l.drop j = l.drop i := by
  unfold cutE
  rw [show l.drop j = (l.drop i).drop (j - i) by rw [List.drop_drop]; congr 1; omega, List.take_append_drop]
theorem flat_segs (l : List EdI) : ∀ (rs : List HRw) (d : Nat), RowsOk l.length d rs → flatS (segsOf l d rs) (l.drop (endR d rs)) = l.drop d
  | [], _, _ => rfl
  | r :: rs, d, ⟨a, b, c, h⟩ => by
    show cutE l d r.1 ++ (cutE l r.1 r.2 ++ flatS (segsOf l r.2 rs) (l.drop (endR r.2 rs))) = _
    rw [flat_segs l rs r.2 h, cutE_drop l b, cutE_drop l a]
def KeepL (l : List EdI) : Prop := ∀ e ∈ l, e.1 = 1
theorem mem_cutE {l : List EdI} {i j : Nat} {e : EdI} (h : e ∈ cutE l i j) : ∃ k, i ≤ k ∧ k < j ∧ l[k]? = some e := by
  unfold cutE at h
  obtain ⟨m, hm⟩ := List.mem_iff_getElem?.1 h
  have hl := (List.getElem?_eq_some_iff.1 hm).1
  rw [List.length_take] at hl
  rw [List.getElem?_take, if_pos (by omega), List.getElem?_drop] at hm
  exact ⟨i + m, by omega, by omega, hm⟩
theorem segs_keep (l : List EdI) : ∀ (rs : List HRw) (d : Nat), RowsSep l.length d rs → (∀ k x, d ≤ k → l[k]? = some x → x.1 ≠ 1 → InR rs k) → (∀ s ∈ segsOf l d rs, KeepL s.1) ∧ KeepL (l.drop (endR d rs))
  | [], d, _, hc => ⟨(by intro s hs; cases hs), fun e he => by
      obtain ⟨m, hm⟩ := List.mem_iff_getElem?.1 he
      rw [List.getElem?_drop] at hm
      by_cases h1 : e.1 = 1
      · exact h1
      · obtain ⟨r, hr, _⟩ := hc (d + m) e (by omega) hm h1
        cases hr⟩
  | r :: rs, d, ⟨a, b, c, h⟩, hc => by
    have hr : ∀ k x, r.2 ≤ k → l[k]? = some x → x.1 ≠ 1 → InR rs k := fun k x hk hx h1 => by
      obtain ⟨y, hy, g1, g2⟩ := hc k x (by omega) hx h1
      rcases List.mem_cons.1 hy with rfl | hy
      · omega
      · exact ⟨y, hy, g1, g2⟩
    have hs : RowsSep l.length (r.2 + 1) rs := h
    have h0 : ∀ {rs : List HRw} {d d' : Nat}, RowsSep l.length d rs → d' ≤ d → RowsSep l.length d' rs := fun {rs d d'} hh hd => by
      cases rs with
      | nil => trivial
      | cons x xs => exact ⟨by have := hh.1; omega, hh.2⟩
    obtain ⟨i1, i2⟩ := segs_keep l rs r.2 (h0 h (by omega)) hr
    refine ⟨fun s hs' => ?_, i2⟩
    rcases List.mem_cons.1 hs' with rfl | hs'
    · intro e he
      obtain ⟨k, k1, k2, hk⟩ := mem_cutE he
      by_cases h1 : e.1 = 1
      · exact h1
      · obtain ⟨y, hy, g1, g2⟩ := hc k e k1 hk h1
        rcases List.mem_cons.1 hy with rfl | hy
        · omega
        · have := InR.ge hs ⟨y, hy, g1, g2⟩; omega
    · exact i1 s hs'
theorem segs_mem (l : List EdI) : ∀ (rs : List HRw) (d : Nat), ∀ s ∈ segsOf l d rs, ∀ e ∈ s.2, e ∈ l
  | r :: rs, d, s, hs, e, he => by
    rcases List.mem_cons.1 (show s ∈ (cutE l d r.1, cutE l r.1 r.2) :: segsOf l r.2 rs from hs) with rfl | hs
    · obtain ⟨k, _, _, hk⟩ := mem_cutE he
      exact List.mem_of_getElem? hk
    · exact segs_mem l rs r.2 s hs e he

/-! ### The lines of both sides -/
def linesA (l : List EdI) : List ByteArray := (l.filter isDel).map (·.2)
def linesB (l : List EdI) : List ByteArray := (l.filter isAdd).map (·.2)
theorem linesA_app (l m : List EdI) : linesA (l ++ m) = linesA l ++ linesA m := by unfold linesA; rw [List.filter_append, List.map_append]
theorem linesB_app (l m : List EdI) : linesB (l ++ m) = linesB l ++ linesB m := by unfold linesB; rw [List.filter_append, List.map_append]
theorem linesA_len (l : List EdI) : (linesA l).length = dels l := by unfold linesA dels; rw [List.length_map]
theorem linesB_len (l : List EdI) : (linesB l).length = adds l := by unfold linesB adds; rw [List.length_map]
theorem linesA_cons (e : EdI) (l : List EdI) : linesA (e :: l) = if isDel e then e.2 :: linesA l else linesA l := by unfold linesA; rw [List.filter_cons]; split <;> rfl
theorem linesB_cons (e : EdI) (l : List EdI) : linesB (e :: l) = if isAdd e then e.2 :: linesB l else linesB l := by unfold linesB; rw [List.filter_cons]; split <;> rfl
theorem keep_lines : ∀ {l : List EdI}, KeepL l → linesA l = linesB l
  | [], _ => rfl
  | e :: l, h => by
    have he := h e List.mem_cons_self
    rw [linesA_cons, linesB_cons, keep_lines fun x hx => h x (List.mem_cons_of_mem _ hx)]
    simp [isDel, isAdd, he]
theorem keep_dels {l : List EdI} (h : KeepL l) : dels l = adds l := by rw [← linesA_len, ← linesB_len, keep_lines h]
theorem ops_of_ok {e : EdI} (h : okOp e = true) : e.1 = 1 ∨ e.1 = 2 ∨ e.1 = 3 := by
  unfold okOp at h
  simp only [Bool.or_eq_true, beq_iff_eq] at h
  omega
theorem newL_lines : ∀ {l : List EdI}, l.all okOp = true → newL l = linesB l
  | [], _ => rfl
  | e :: l, h => by
    rw [List.all_cons, Bool.and_eq_true] at h
    have ih := newL_lines h.2
    unfold newL at ih ⊢
    rw [List.filter_cons, linesB_cons]
    rcases ops_of_ok h.1 with he | he | he <;> simp [he, isAdd, ih]
theorem matchL_of {xs rest : List ByteArray} : ∀ {ls : List EdI} {p : Nat}, ls.all okOp = true → xs.drop p = linesA ls ++ rest → matchL xs p ls = true
  | [], _, _, _ => rfl
  | e :: ls, p, h, hd => by
    rw [List.all_cons, Bool.and_eq_true] at h
    rw [linesA_cons] at hd
    unfold matchL
    rcases ops_of_ok h.1 with he | he | he
    · rw [if_neg (by omega)]
      rw [if_pos (by simp [isDel, he])] at hd
      have h0 : xs[p]? = some e.2 := by
        have := congrArg (fun l => l[0]?) hd
        simpa [List.getElem?_drop] using this
      have h1 : xs.drop (p + 1) = linesA ls ++ rest := by
        have := congrArg (fun l => l.drop 1) hd
        simpa [List.drop_drop, Nat.add_comm] using this
      rw [matchL_of h.2 h1]
      simp [h0]
    · rw [if_neg (by omega)]
      rw [if_pos (by simp [isDel, he])] at hd
      have h0 : xs[p]? = some e.2 := by
        have := congrArg (fun l => l[0]?) hd
        simpa [List.getElem?_drop] using this
      have h1 : xs.drop (p + 1) = linesA ls ++ rest := by
        have := congrArg (fun l => l.drop 1) hd
        simpa [List.drop_drop, Nat.add_comm] using this
      rw [matchL_of h.2 h1]
      simp [h0]
    · rw [if_pos he]
      rw [if_neg (by simp [isDel, he])] at hd
      exact matchL_of h.2 hd

/-! ### Hunks done -/
def GoodS (s : Seg) : Prop := KeepL s.1 ∧ s.2.all okOp = true
theorem apply_segs (xs : List ByteArray) (tail : List EdI) (ht : KeepL tail) : ∀ (ss : List Seg) (p q i : Nat) (out : List ByteArray), (∀ s ∈ ss, GoodS s) → out.length = q → p ≤ xs.length → xs.drop p = linesA (flatS ss tail) →
    applyH xs (hunksS p q ss) p out i = .inr (out ++ linesB (flatS ss tail))
  | [], p, q, i, out, _, _, _, hd => by
    show Sum.inr (out ++ xs.drop p) = _
    rw [hd]
    show Sum.inr (out ++ linesA tail) = Sum.inr (out ++ linesB tail)
    rw [keep_lines ht]
  | (g, r) :: ss, p, q, i, out, hs, hq, hp, hd => by
    obtain ⟨hg, hr⟩ := hs (g, r) List.mem_cons_self
    simp only at hg hr
    have hd' : xs.drop p = linesA g ++ (linesA r ++ linesA (flatS ss tail)) := by rw [hd, ← linesA_app, ← linesA_app]; rfl
    have hdg := keep_dels hg
    have hl : xs.length - p = dels g + (dels r + (linesA (flatS ss tail)).length) := by
      have := congrArg List.length hd'
      rw [List.length_drop, List.length_append, List.length_append, linesA_len, linesA_len] at this
      exact this
    have h1 : xs.drop (p + dels g) = linesA r ++ linesA (flatS ss tail) := by
      rw [← List.drop_drop, hd', ← linesA_len, List.drop_left]
    have h2 : xs.drop (p + dels g + dels r) = linesA (flatS ss tail) := by
      rw [← List.drop_drop, h1, ← linesA_len, List.drop_left]
    show applyH xs (⟨((p + dels g : Nat) : Int), (dels r : Int), ((q + adds g : Nat) : Int), (adds r : Int), r⟩ :: hunksS (p + dels g + dels r) (q + adds g + adds r) ss) p out i = _
    have hw : wrongH xs ⟨((p + dels g : Nat) : Int), (dels r : Int), ((q + adds g : Nat) : Int), (adds r : Int), r⟩ (p : Int) (out.length : Int) = 0 := by
      rw [wrongH_rest hr rfl rfl (by show (p : Int) ≤ ((p + dels g : Nat) : Int); omega) (by show (0 : Int) ≤ ((q + adds g : Nat) : Int); omega) (by show ((q + adds g : Nat) : Int) = (out.length : Int) + (((p + dels g : Nat) : Int) - (p : Int)); omega)]
      rw [if_neg (by show ¬ (xs.length : Int) - (dels r : Int) < ((p + dels g : Nat) : Int); omega), if_neg]
      show ¬ matchL xs ((p + dels g : Nat) : Int).toNat r = false
      rw [Int.toNat_natCast, matchL_of hr h1]
      simp
    unfold applyH
    rw [if_neg (by rw [hw]; simp)]
    have e1 : (((p + dels g : Nat) : Int) + (dels r : Int)).toNat = p + dels g + dels r := by omega
    have e2 : ((p + dels g : Nat) : Int).toNat - p = dels g := by omega
    simp only [e1, e2]
    have e3 : (xs.drop p).take (dels g) = linesB g := by rw [hd', ← keep_lines hg, ← linesA_len, List.take_left]
    rw [e3, newL_lines hr, apply_segs xs tail ht ss _ _ _ _ (fun s hs' => hs s (List.mem_cons_of_mem _ hs')) (by rw [List.length_append, List.length_append, linesB_len, linesB_len]; omega) (by omega) h2]
    congr 1
    show _ = out ++ linesB (g ++ (r ++ flatS ss tail))
    rw [linesB_app, linesB_app, List.append_assoc, List.append_assoc]

/-! ### Hunks turned -/
def tlF : List EdI → List EdI → List EdI
  | p, [] => p
  | p, e :: l => if e.1 = 3 then (2, e.2) :: tlF p l else if e.1 = 2 then tlF (p ++ [(3, e.2)]) l else p ++ e :: tlF [] l
def AddL (l : List EdI) : Prop := ∀ e ∈ l, e.1 = 3
theorem addL_linesA : ∀ {p : List EdI}, AddL p → linesA p = []
  | [], _ => rfl
  | e :: p, h => by rw [linesA_cons, addL_linesA fun x hx => h x (List.mem_cons_of_mem _ hx), if_neg (by simp [isDel, h e List.mem_cons_self])]
theorem tlF_lines : ∀ (l p : List EdI), AddL p → l.all okOp = true → linesA (tlF p l) = linesB l ∧ linesB (tlF p l) = linesB p ++ linesA l ∧ (tlF p l).all okOp = true
  | [], p, hp, _ => ⟨addL_linesA hp, by show linesB p = _; rw [show linesA [] = [] from rfl, List.append_nil], by
      show p.all okOp = true
      rw [List.all_eq_true]
      intro e he
      simp [okOp, hp e he]⟩
  | e :: l, p, hp, h => by
    rw [List.all_cons, Bool.and_eq_true] at h
    have hpo : p.all okOp = true := by
      rw [List.all_eq_true]
      intro e he
      simp [okOp, hp e he]
    obtain ⟨o, s⟩ := e
    rcases ops_of_ok h.1 with he | he | he <;> (simp only at he; subst he)
    · obtain ⟨h1, h2, h3⟩ := tlF_lines l [] (fun x hx => by cases hx) h.2
      have e0 : tlF p ((1, s) :: l) = p ++ (1, s) :: tlF [] l := rfl
      rw [e0, linesA_app, linesB_app, linesA_cons, linesB_cons, linesA_cons, linesB_cons, addL_linesA hp, h1, h2, List.all_append, List.all_cons, h3, hpo]
      exact ⟨rfl, rfl, rfl⟩
    · have hp2 : AddL (p ++ [(3, s)]) := fun x hx => by
        rcases List.mem_append.1 hx with hx | hx
        · exact hp x hx
        · rw [List.mem_singleton] at hx; subst hx; rfl
      obtain ⟨h1, h2, h3⟩ := tlF_lines l _ hp2 h.2
      have e0 : tlF p ((2, s) :: l) = tlF (p ++ [(3, s)]) l := rfl
      rw [e0, h1, h2, h3, linesB_app, linesA_cons, linesB_cons]
      refine ⟨rfl, ?_, rfl⟩
      rw [List.append_assoc]
      rfl
    · obtain ⟨h1, h2, h3⟩ := tlF_lines l p hp h.2
      have e0 : tlF p ((3, s) :: l) = (2, s) :: tlF p l := rfl
      rw [e0, linesA_cons, linesB_cons, linesA_cons, linesB_cons, h1, h2, List.all_cons, h3]
      exact ⟨rfl, rfl, rfl⟩
def turnG (h : Hk) : Hk := ⟨h.to_, h.add, h.at_, h.del, tlF [] h.ls⟩
def turnS (s : Seg) : Seg := (s.1, tlF [] s.2)
theorem turn_dels {l : List EdI} (h : l.all okOp = true) : dels (tlF [] l) = adds l ∧ adds (tlF [] l) = dels l := by
  obtain ⟨h1, h2, _⟩ := tlF_lines l [] (fun x hx => by cases hx) h
  rw [← linesA_len, ← linesB_len, ← linesB_len, ← linesA_len, h1, h2]
  exact ⟨rfl, rfl⟩
theorem turn_segs : ∀ (ss : List Seg) (p q : Nat), (∀ s ∈ ss, GoodS s) → (hunksS p q ss).map turnG = hunksS q p (ss.map turnS)
  | [], _, _, _ => rfl
  | (g, r) :: ss, p, q, h => by
    obtain ⟨hg, hr⟩ := h (g, r) List.mem_cons_self
    simp only at hg hr
    obtain ⟨h1, h2⟩ := turn_dels hr
    have hd := keep_dels hg
    show (⟨((q + adds g : Nat) : Int), (adds r : Int), ((p + dels g : Nat) : Int), (dels r : Int), tlF [] r⟩ : Hk) :: (hunksS (p + dels g + dels r) (q + adds g + adds r) ss).map turnG =
      (⟨((q + dels g : Nat) : Int), (dels (tlF [] r) : Int), ((p + adds g : Nat) : Int), (adds (tlF [] r) : Int), tlF [] r⟩ : Hk) :: hunksS (q + dels g + dels (tlF [] r)) (p + adds g + adds (tlF [] r)) (ss.map turnS)
    rw [turn_segs ss _ _ (fun s hs => h s (List.mem_cons_of_mem _ hs)), h1, h2, hd]
theorem turnS_good {s : Seg} (h : GoodS s) : GoodS (turnS s) := ⟨h.1, (tlF_lines s.2 [] (fun x hx => by cases hx) h.2).2.2⟩
theorem turn_flat (tail : List EdI) (ht : KeepL tail) : ∀ (ss : List Seg), (∀ s ∈ ss, GoodS s) → linesA (flatS (ss.map turnS) tail) = linesB (flatS ss tail) ∧ linesB (flatS (ss.map turnS) tail) = linesA (flatS ss tail)
  | [], _ => ⟨keep_lines ht, (keep_lines ht).symm⟩
  | (g, r) :: ss, h => by
    obtain ⟨hg, hr⟩ := h (g, r) List.mem_cons_self
    simp only at hg hr
    obtain ⟨h1, h2, _⟩ := tlF_lines r [] (fun x hx => by cases hx) hr
    obtain ⟨i1, i2⟩ := turn_flat tail ht ss (fun s hs => h s (List.mem_cons_of_mem _ hs))
    show linesA (g ++ (tlF [] r ++ flatS (ss.map turnS) tail)) = linesB (g ++ (r ++ flatS ss tail)) ∧ linesB (g ++ (tlF [] r ++ flatS (ss.map turnS) tail)) = linesA (g ++ (r ++ flatS ss tail))
    rw [linesA_app, linesA_app, linesB_app, linesB_app, linesB_app, linesB_app, linesA_app, linesA_app, h1, h2, i1, i2, keep_lines hg]
    exact ⟨rfl, rfl⟩
end Go.Proofs.YtdpoeagmeiedcaaDoor

namespace Go.Proofs.YtdpoeagmeiedcaaDoor
open Go Go.RowKit

/-- A hunk with an edit more. -/
def addE (h : Hk) (e : EdI) : Hk := ⟨h.at_, h.del + (if isDel e then 1 else 0), h.to_, h.add + (if isAdd e then 1 else 0), h.ls ++ [e]⟩
def putE (out : List Hk) (e : EdI) : List Hk := match out.getLast? with
  | some h => out.dropLast ++ [addE h e]
  | none => []
theorem putE_snoc (pre : List Hk) (h : Hk) (e : EdI) : putE (pre ++ [h]) e = pre ++ [addE h e] := by
  unfold putE
  rw [List.getLast?_append]
  simp
/-- One round of the document's second walk. -/
def stepR (m : Nat → Bool) (out : List Hk) (k i j : Nat) (e : EdI) : List Hk :=
  if m k then putE (if k = 0 ∨ m (k - 1) = false then out ++ [⟨(i : Int), 0, (j : Int), 0, []⟩] else out) e else out
def runF (m : Nat → Bool) : List Hk → Nat → Nat → Nat → List EdI → List Hk
  | out, _, _, _, [] => out
  | out, k, i, j, e :: l => runF m (stepR m out k i j e) (k + 1) (i + if isDel e then 1 else 0) (j + if isAdd e then 1 else 0) l
theorem dels_cons (e : EdI) (l : List EdI) : dels (e :: l) = (if isDel e then 1 else 0) + dels l := by
  unfold dels; rw [List.filter_cons]; split <;> simp; omega
theorem adds_cons (e : EdI) (l : List EdI) : adds (e :: l) = (if isAdd e then 1 else 0) + adds l := by
  unfold adds; rw [List.filter_cons]; split <;> simp; omega
theorem runF_gap (m : Nat → Bool) (rest : List EdI) : ∀ (g : List EdI) (out : List Hk) (k i j : Nat), (∀ x, x < g.length → m (k + x) = false) → runF m out k i j (g ++ rest) = runF m out (k + g.length) (i + dels g) (j + adds g) rest
  | [], _, _, _, _, _ => rfl
  | e :: g, out, k, i, j, h => by
    have h0 : m k = false := h 0 (by simp)
    show runF m (stepR m out k i j e) (k + 1) _ _ (g ++ rest) = _
    rw [show stepR m out k i j e = out by unfold stepR; rw [h0]; rfl, runF_gap m rest g out _ _ _ (fun x hx => by rw [show k + 1 + x = k + (x + 1) by omega]; exact h (x + 1) (by rw [List.length_cons]; omega)), dels_cons, adds_cons, List.length_cons]
    congr 1 <;> omega
def addAll (h : Hk) (r : List EdI) : Hk := ⟨h.at_, h.del + dels r, h.to_, h.add + adds r, h.ls ++ r⟩
theorem addAll_cons (h : Hk) (e : EdI) (r : List EdI) : addAll (addE h e) r = addAll h (e :: r) := by
  unfold addAll addE
  simp only [dels_cons, adds_cons, List.append_assoc, List.singleton_append]
  congr 1
  · by_cases he : isDel e = true
    · rw [if_pos he, if_pos he]; omega
    · rw [if_neg he, if_neg he]; omega
  · by_cases he : isAdd e = true
    · rw [if_pos he, if_pos he]; omega
    · rw [if_neg he, if_neg he]; omega
theorem runF_in (m : Nat → Bool) (rest : List EdI) (pre : List Hk) : ∀ (r : List EdI) (h : Hk) (k i j : Nat), m k = true → (∀ x, x < r.length → m (k + 1 + x) = true) → runF m (pre ++ [h]) (k + 1) i j (r ++ rest) = runF m (pre ++ [addAll h r]) (k + 1 + r.length) (i + dels r) (j + adds r) rest
  | [], h, k, i, j, _, _ => by
    have : addAll h [] = h := by unfold addAll; simp [dels, adds]
    rw [this]; rfl
  | e :: r, h, k, i, j, hk, hm => by
    have h1 : m (k + 1) = true := hm 0 (by simp)
    show runF m (stepR m (pre ++ [h]) (k + 1) i j e) (k + 1 + 1) _ _ (r ++ rest) = _
    have e0 : stepR m (pre ++ [h]) (k + 1) i j e = pre ++ [addE h e] := by
      unfold stepR
      rw [h1, if_pos rfl, if_neg (by rintro (h | h); · omega
                                     · rw [show k + 1 - 1 = k by omega, hk] at h; cases h)]
      exact putE_snoc _ _ _
    rw [e0, runF_in m rest pre r (addE h e) (k + 1) _ _ h1 (fun x hx => by rw [show k + 1 + 1 + x = k + 1 + (x + 1) by omega]; exact hm (x + 1) (by rw [List.length_cons]; omega)), addAll_cons, dels_cons, adds_cons, List.length_cons]
    congr 1 <;> omega
theorem runF_segs (m : Nat → Bool) (l : List EdI) : ∀ (rs : List HRw) (d p q : Nat) (out : List Hk), RowsSep l.length d rs → (∀ k, d ≤ k → k < l.length → (m k = true ↔ InR rs k)) → (d = 0 ∨ (d < l.length → m d = false) ∨ m (d - 1) = false) → d ≤ l.length →
    runF m out d p q (l.drop d) = out ++ hunksS p q (segsOf l d rs)
  | [], d, p, q, out, _, hm, _, hd => by
    have h := runF_gap m [] (l.drop d) out d p q (fun x hx => by
      rw [List.length_drop] at hx
      have := hm (d + x) (by omega) (by omega)
      cases hmx : m (d + x) with
      | false => rfl
      | true => obtain ⟨r, hr, _⟩ := this.1 hmx; cases hr)
    rw [List.append_nil] at h
    rw [h]
    show out = out ++ []
    rw [List.append_nil]
  | r :: rs, d, p, q, out, ⟨a, b, c, hs⟩, hm, h0, hd => by
    have hin : ∀ k, r.1 ≤ k → k < r.2 → m k = true := fun k k1 k2 => (hm k (by omega) (by omega)).2 ⟨r, List.mem_cons_self, k1, k2⟩
    have hgap : ∀ k, d ≤ k → k < r.1 → m k = false := fun k k1 k2 => by
      cases hmx : m k with
      | false => rfl
      | true =>
        obtain ⟨y, hy, g1, g2⟩ := (hm k k1 (by omega)).1 hmx
        rcases List.mem_cons.1 hy with rfl | hy
        · omega
        · have := InR.ge hs ⟨y, hy, g1, g2⟩; omega
    have hend : r.2 < l.length → m r.2 = false := fun hl => by
      cases hmx : m r.2 with
      | false => rfl
      | true =>
        obtain ⟨y, hy, g1, g2⟩ := (hm r.2 (by omega) hl).1 hmx
        rcases List.mem_cons.1 hy with rfl | hy
        · omega
        · have := InR.ge hs ⟨y, hy, g1, g2⟩; omega
    have hprev : r.1 = 0 ∨ m (r.1 - 1) = false := by
      by_cases hrd : d < r.1
      · exact .inr (hgap (r.1 - 1) (by omega) (by omega))
      · have hrd : r.1 = d := by omega
        have hmd := hin r.1 (Nat.le_refl _) b
        rcases h0 with h | h | h
        · exact .inl (by omega)
        · rw [hrd] at hmd b
          rw [h (by omega)] at hmd
          cases hmd
        · rw [hrd]; exact .inr h
    have hc1 := cutE_len l (i := d) (j := r.1) (by omega)
    have hc2 := cutE_len l (i := r.1) (j := r.2) c
    rw [← cutE_drop l a, runF_gap m _ _ _ _ _ _ (fun x hx => hgap (d + x) (by omega) (by omega)), hc1, show d + (r.1 - d) = r.1 by omega]
    rw [← cutE_drop l (Nat.le_of_lt b)]
    show _ = out ++ (_ :: hunksS _ _ (segsOf l r.2 rs))
    have hm' : ∀ k, r.2 ≤ k → k < l.length → (m k = true ↔ InR rs k) := fun k k1 k2 => by
      rw [hm k (by omega) k2]
      constructor
      · rintro ⟨y, hy, g1, g2⟩
        rcases List.mem_cons.1 hy with rfl | hy
        · omega
        · exact ⟨y, hy, g1, g2⟩
      · rintro ⟨y, hy, g1, g2⟩
        exact ⟨y, List.mem_cons_of_mem _ hy, g1, g2⟩
    have h1' : RowsSep l.length r.2 rs := by
      cases rs with
      | nil => trivial
      | cons x xs => exact ⟨by have := hs.1; omega, hs.2⟩
    cases hcut : cutE l r.1 r.2 with
    | nil => rw [hcut] at hc2; simp at hc2; omega
    | cons e rr =>
      rw [hcut, List.length_cons] at hc2
      have hstep : stepR m out r.1 (p + dels (cutE l d r.1)) (q + adds (cutE l d r.1)) e = out ++ [addE ⟨((p + dels (cutE l d r.1) : Nat) : Int), 0, ((q + adds (cutE l d r.1) : Nat) : Int), 0, []⟩ e] := by
        unfold stepR
        rw [hin r.1 (Nat.le_refl _) b, if_pos hprev]
        exact putE_snoc _ _ _
      show runF m (stepR m out r.1 _ _ e) (r.1 + 1) _ _ (rr ++ l.drop r.2) = _
      rw [hstep, runF_in m _ _ rr _ r.1 _ _ (hin r.1 (Nat.le_refl _) b) (fun x hx => hin _ (by omega) (by omega)), addAll_cons, show r.1 + 1 + rr.length = r.2 by omega]
      rw [runF_segs m l rs r.2 _ _ _ h1' hm' (.inr (.inl hend)) c]
      rw [List.append_assoc, List.singleton_append, dels_cons, adds_cons]
      have ea : addAll ⟨((p + dels (cutE l d r.1) : Nat) : Int), 0, ((q + adds (cutE l d r.1) : Nat) : Int), 0, []⟩ (e :: rr) = ⟨((p + dels (cutE l d r.1) : Nat) : Int), (((if isDel e then 1 else 0) + dels rr : Nat) : Int), ((q + adds (cutE l d r.1) : Nat) : Int), (((if isAdd e then 1 else 0) + adds rr : Nat) : Int), e :: rr⟩ := by
        unfold addAll
        simp only [dels_cons, adds_cons, List.nil_append, Int.zero_add]
      rw [ea]
      simp only [Nat.add_assoc]
/-- The document's hunks are the program's. -/
theorem runF_hunks (l : List EdI) (a : Nat) (m : Nat → Bool) (hm : ∀ k, k < l.length → (m k = true ↔ NearC l a k)) : runF m [] 0 0 0 l = hunksP l a := by
  obtain ⟨h1, h2⟩ := rowsF_near l a
  have h := runF_segs m l (rowsF a l.length [] 0 l) 0 0 0 [] h1 (fun k _ hk => (hm k hk).trans (h2 k hk).symm) (.inl rfl) (Nat.zero_le _)
  rw [List.drop_zero, List.nil_append] at h
  rw [h]
  unfold hunksP
  rw [hunksF_segs]

/-! ### Of a difference -/
theorem edI_ok (xs ys : List ByteArray) : (edI (ed xs ys)).all okOp = true := by
  rw [List.all_eq_true]
  intro e he
  unfold edI at he
  obtain ⟨x, hx, rfl⟩ := List.mem_map.1 he
  obtain ⟨n, s⟩ := x
  rcases ed_ops xs ys (n, s) hx with h | h | h <;> (simp only at h; subst h; rfl)
theorem edI_linesA : ∀ (l : List (Nat × ByteArray)), (∀ e ∈ l, e.1 = 1 ∨ e.1 = 2 ∨ e.1 = 3) → linesA (edI l) = edA l ∧ linesB (edI l) = edB l
  | [], _ => ⟨rfl, rfl⟩
  | (n, s) :: l, h => by
    obtain ⟨h1, h2⟩ := edI_linesA l (fun e he => h e (List.mem_cons_of_mem _ he))
    have h0 := h (n, s) List.mem_cons_self
    show linesA (((n : Int), s) :: edI l) = _ ∧ linesB (((n : Int), s) :: edI l) = _
    rw [linesA_cons, linesB_cons, edA_cons, edB_cons, h1, h2]
    rcases h0 with h0 | h0 | h0 <;> (simp only at h0; subst h0; exact ⟨rfl, rfl⟩)
theorem edI_lines (xs ys : List ByteArray) : linesA (edI (ed xs ys)) = xs ∧ linesB (edI (ed xs ys)) = ys := by
  obtain ⟨h1, h2⟩ := edI_linesA (ed xs ys) (ed_ops xs ys)
  obtain ⟨g1, g2, _⟩ := ed_all xs ys
  exact ⟨h1.trans g1, h2.trans g2⟩
theorem all_mem {l m : List EdI} (h : ∀ e ∈ m, e ∈ l) (hl : l.all okOp = true) : m.all okOp = true := by
  rw [List.all_eq_true] at hl ⊢
  exact fun e he => hl e (h e he)
theorem hunks_segs (l : List EdI) (a : Nat) (hl : l.all okOp = true) : ∃ (ss : List Seg) (tail : List EdI), hunksP l a = hunksS 0 0 ss ∧ flatS ss tail = l ∧ KeepL tail ∧ ∀ s ∈ ss, GoodS s := by
  obtain ⟨h1, h2⟩ := rowsF_near l a
  have hc : ∀ k x, 0 ≤ k → l[k]? = some x → x.1 ≠ 1 → InR (rowsF a l.length [] 0 l) k := fun k x _ hx h => (h2 k (List.getElem?_eq_some_iff.1 hx).1).2 ⟨k, x, hx, h, by omega, by omega⟩
  obtain ⟨g1, g2⟩ := segs_keep l _ 0 h1 hc
  exact ⟨segsOf l 0 (rowsF a l.length [] 0 l), l.drop (endR 0 (rowsF a l.length [] 0 l)), hunksF_segs l _ 0 0 0, flat_segs l _ 0 (h1.ok (Nat.le_refl _)), g2, fun s hs => ⟨g1 s hs, all_mem (segs_mem l _ 0 s hs) hl⟩⟩
theorem hunks_done (xs ys : List ByteArray) (a : Nat) : applyH xs (hunksP (edI (ed xs ys)) a) 0 [] 0 = .inr ys ∧ applyH ys ((hunksP (edI (ed xs ys)) a).map turnG) 0 [] 0 = .inr xs := by
  obtain ⟨e1, e2⟩ := edI_lines xs ys
  obtain ⟨ss, tail, h, hf, ht, hg⟩ := hunks_segs (edI (ed xs ys)) a (edI_ok xs ys)
  have h1 := apply_segs xs tail ht ss 0 0 0 [] hg rfl (Nat.zero_le _) (by rw [List.drop_zero, hf, e1])
  obtain ⟨t1, t2⟩ := turn_flat tail ht ss hg
  have h2 := apply_segs ys tail ht (ss.map turnS) 0 0 0 [] (fun s hs => by obtain ⟨x, hx, rfl⟩ := List.mem_map.1 hs; exact turnS_good (hg x hx)) rfl (Nat.zero_le _) (by rw [List.drop_zero, t1, hf, e2])
  rw [h, turn_segs ss 0 0 hg]
  rw [hf, e2] at h1
  rw [t2, hf, e1] at h2
  exact ⟨h1, h2⟩
theorem hunksS_two : ∀ (ss : List Seg) (p q N : Nat) (tail : List EdI), p + (linesA (flatS ss tail)).length ≤ N → q + (linesB (flatS ss tail)).length ≤ N → N < 100 → (flatS ss tail).length ≤ 1000 → (∀ e ∈ flatS ss tail, e.2.size ≤ 1000) → ∀ h ∈ hunksS p q ss, HkTwo h
  | [], _, _, _, _, _, _, _, _, _, h, hh => by cases hh
  | (g, r) :: ss, p, q, N, tail, hp, hq, hN, hlen, hsz, h, hh => by
    have ea : flatS ((g, r) :: ss) tail = g ++ (r ++ flatS ss tail) := rfl
    rw [ea] at hp hq hlen hsz
    rw [linesA_app, linesA_app, List.length_append, List.length_append, linesA_len, linesA_len] at hp
    rw [linesB_app, linesB_app, List.length_append, List.length_append, linesB_len, linesB_len] at hq
    rw [List.length_append, List.length_append] at hlen
    rcases List.mem_cons.1 (show h ∈ (⟨((p + dels g : Nat) : Int), (dels r : Int), ((q + adds g : Nat) : Int), (adds r : Int), r⟩ : Hk) :: hunksS (p + dels g + dels r) (q + adds g + adds r) ss from hh) with rfl | hm
    · exact ⟨⟨Int.natCast_nonneg _, by show ((p + dels g : Nat) : Int) < 100; omega⟩, ⟨Int.natCast_nonneg _, by show ((dels r : Nat) : Int) < 100; omega⟩, ⟨Int.natCast_nonneg _, by show ((q + adds g : Nat) : Int) < 100; omega⟩, ⟨Int.natCast_nonneg _, by show ((adds r : Nat) : Int) < 100; omega⟩, by show r.length ≤ 1000; omega, fun e he => hsz e (by simp only [List.mem_append]; exact .inr (.inl he))⟩
    · exact hunksS_two ss _ _ N tail (by omega) (by omega) hN (by omega) (fun e he => hsz e (by simp only [List.mem_append]; exact .inr (.inr he))) h hm
theorem ed_mem (xs : List ByteArray) : ∀ ys : List ByteArray, ∀ e ∈ ed xs ys, e.2 ∈ xs ∨ e.2 ∈ ys := fun ys e he => by
  obtain ⟨g1, g2, _⟩ := ed_all xs ys
  rcases ed_ops xs ys e he with h | h | h
  · refine .inl ?_
    rw [← g1]; unfold edA
    exact List.mem_map.2 ⟨e, List.mem_filter.2 ⟨he, by simp [h]⟩, rfl⟩
  · refine .inl ?_
    rw [← g1]; unfold edA
    exact List.mem_map.2 ⟨e, List.mem_filter.2 ⟨he, by simp [h]⟩, rfl⟩
  · refine .inr ?_
    rw [← g2]; unfold edB
    exact List.mem_map.2 ⟨e, List.mem_filter.2 ⟨he, by simp [h]⟩, rfl⟩
theorem hunks_two (xs ys : List ByteArray) (a : Nat) (hx : xs.length ≤ 50) (hy : ys.length ≤ 50) (sx : ∀ s ∈ xs, s.size ≤ 1000) (sy : ∀ s ∈ ys, s.size ≤ 1000) : ∀ h ∈ hunksP (edI (ed xs ys)) a, HkTwo h := by
  obtain ⟨e1, e2⟩ := edI_lines xs ys
  obtain ⟨ss, tail, h, hf, ht, hg⟩ := hunks_segs (edI (ed xs ys)) a (edI_ok xs ys)
  have hle := ed_len xs ys
  have hl1 := edI_len (ed xs ys)
  rw [h]
  refine hunksS_two ss 0 0 50 tail (by rw [hf, e1]; omega) (by rw [hf, e2]; omega) (by omega) (by rw [hf]; omega) (fun e he => ?_)
  rw [hf] at he
  unfold edI at he
  obtain ⟨x, hx', rfl⟩ := List.mem_map.1 he
  rcases ed_mem xs ys x hx' with h | h
  · exact sx _ h
  · exact sy _ h
end Go.Proofs.YtdpoeagmeiedcaaDoor

namespace Go.Proofs.YtdpoeagmeiedcaaDoor
open Go Go.RowKit

theorem step_append_eds (w : World) {ops : Array Oper} {o : Oper} {a : Act} {K : Act → World → Prop} {Q : Exit → Act → World → Prop} {E : Prop} (hgd : o.guard = none) (s x : Operand)
    (ho : o.op = .call { callee := .builtin .append, args := #[s, x], argTypes := #[25, 25] })
    (base n : Nat) (v : Value) (xs ys : List EdI) (hs : a.eval s = v) (hown : w.ownsRow base 66 2 v n (xs.flatMap cEd)) (hn : n = xs.length) (A : Option Addr) (m c : Nat) (hx : a.eval x = .slice A m c) (h : Reads 2 cEd w (.slice A m c) ys) (hl : xs.length + ys.length ≤ 1000000) (hbase : base ≤ w.heap.size) (N : Nat) (hN : N = (xs ++ ys).length)
    (hk : ∀ A' c' w', w'.ownsRow base 66 2 (.slice A' N c') N ((xs ++ ys).flatMap cEd) → Below base w w' → w.grownBy w' v.ownBlock → K (a.put o.dst (.slice A' N c')) w') :
    if Region.wanted o (yielded ops a.tmps) = true then Oper.wp Tryd.prog o a w K Q else E := by
  have hw : Region.wanted o (yielded ops a.tmps) = true := by simp [Region.wanted, hgd]
  rw [if_pos hw]
  subst hN
  subst hn
  obtain ⟨A', c', w', hr, h2, h3, h4⟩ := run_append_eds w o.type base v xs ys hown A m c h hl hbase
  unfold Oper.wp execOp
  simp only [ho, resolve, invoke, builtin, Sem.run_bind, Sem.run_pure, Result.andThen_ok, List.map_toArray, List.map_cons, List.map_nil, hs, hx, hr]
  exact hk A' c' w' h2 h3 h4
theorem reads_one {w : World} {g : Nat} {t : TypeId} {o : Int} {s : ByteArray} (h : Blk w g t #[.int .i64 o, .string s]) : Reads 2 cEd w (.slice (some ⟨g, 0, none⟩) 1 1) [(o, s)] :=
  ⟨some ⟨g, 0, none⟩, 1, rfl, Nat.le_refl _, by unfold maxLen; omega, (fun h => by cases h), fun ad ha i x hx j u hu => by
    obtain rfl := Option.some.inj ha
    cases i with
    | succ i => simp at hx
    | zero =>
      simp at hx
      subst hx
      rw [adr_flat, add_zero_addr, Nat.zero_mul, Nat.zero_add, h.cell j]
      simpa [cEd] using hu⟩
def TurnI (w wr : World) (s3 s4 : Value) (O P : List EdI) (k : Nat) (l TL : List EdI) : Prop :=
  wr.ownsRow w.heap.size 66 2 s3 O.length (O.flatMap cEd) ∧ wr.ownsRow w.heap.size 66 2 s4 P.length (P.flatMap cEd) ∧ (∀ g, s3.ownBlock = some g → s4.ownBlock ≠ some g) ∧ O.length + P.length ≤ k ∧ O ++ tlF P (l.drop k) = TL

set_option maxRecDepth 100000 in
set_option maxHeartbeats 4000000 in
theorem turnedE_any (w : World) (v : Value) (l : List EdI) (h : Reads 2 cEd w v l) (hl : l.length ≤ 1000) (hops : ∀ e ∈ l, e.1 = 1 ∨ e.1 = 2 ∨ e.1 = 3) :
    Calls Tryd.prog 56 #[v] w (OwnTo 66 2 cEd (tlF [] l) w) := by
  obtain ⟨A, c, rfl⟩ := h.form
  have hnm : c ≤ 9223372036854775807 := by have := h.len.2.2; unfold maxLen at this; omega
  have HO := Lib.hid h
  have HP := Lib.hid hops
  obtain ⟨i0, hi, hz0, hz1, hz2⟩ := info_parts editInfo
  obtain ⟨TL, hTL⟩ : ∃ TL, TL = tlF [] l := ⟨_, rfl⟩
  rw [← hTL]
  have HTL := Lib.hid hTL
  clear h hops hTL
  go_enter Tryd.func56, Tryd.ntmps56
  go_wp2_with fail
  go_loopw [3, 4, 9] (fun s3 s4 s9 wr => ∃ (k : Nat) (O P : List EdI), k ≤ l.length ∧ s9 = .int .i64 k ∧ Hid (TurnI w wr s3 s4 O P k l TL) ∧ Hid (Below w.heap.size w wr)) (fun _ _ s9 _ => l.length - (intOf s9).toNat)
  case atStart => exact ⟨0, [], [], Nat.zero_le _, rfl, Lib.hid ⟨World.ownsRow_nil _ _ _ _, World.ownsRow_nil _ _ _ _, (fun g hg => by cases hg), Nat.le_refl _, HTL.out.symm⟩, Lib.hid (Below.refl _ _)⟩
  case round =>
    obtain ⟨k, O, P, hk, rfl, hI, hb⟩ := hrel
    have k0 : (0 : Int) ≤ (k : Int) := Int.natCast_nonneg _
    obtain ⟨hoO, haO, hneO, hlenO, heqO⟩ := hI.out
    have ho := Lib.hid hoO
    have ha := Lib.hid haO
    have hne := Lib.hid hneO
    have HLEN := Lib.hid hlenO
    have t1 : O.length ≤ 1000 := by omega
    have t2 : P.length ≤ 1000 := by omega
    obtain ⟨A3, c3, rfl⟩ := own_formP ho.out
    obtain ⟨A4, c4, rfl⟩ := own_formP ha.out
    by_cases hlt : k < l.length
    · have k1 : (k : Int) < (l.length : Int) := by omega
      obtain ⟨x, hx⟩ : ∃ x, l[k]? = some x := ⟨_, List.getElem?_eq_getElem hlt⟩
      obtain ⟨ad, rfl, c0, c1⟩ := Eds.at_ (HO.out.below hb.out) hx
      have hop := HP.out x (List.mem_of_getElem? hx)
      have HEQ := Lib.hid (show O ++ tlF P (x :: l.drop (k + 1)) = TL by rw [← drop_consP hx]; exact heqO)
      obtain ⟨o, s⟩ := x
      simp only at hop
      have hbE := hb.out.alloc hb.out.size (.cells #[.int .i64 o, .string s] 66)
      have hoE := ho.out.alloc (.cells #[.int .i64 o, .string s] 66)
      have haE := ha.out.alloc (.cells #[.int .i64 o, .string s] 66)
      have kE := Blk.new wr 66 #[.int .i64 o, .string s]
      have e0 := kE.cell 0
      have e1 := kE.cell 1
      have hblt := fun g (hg : (Value.slice A4 P.length c4).ownBlock = some g) => (ha.out.lt g hg).2
      have holt := fun g (hg : (Value.slice A3 O.length c3).ownBlock = some g) => (ho.out.lt g hg).2
      have HB1 := Lib.hid hblt
      have HB2 := Lib.hid holt
      clear hx hblt holt hI hoO haO hneO hlenO heqO
      rcases hop with rfl | rfl | rfl
      · have hnE : (Value.slice A3 O.length c3).ownBlock ≠ some wr.heap.size := fun hg => by have := HB2.out _ hg; omega
        have HNE := Lib.hid hnE
        clear hnE
        go_upto_region 6 with fail
        generalize hW : wr.alloc (.cells #[.int .i64 1, .string s] 66) = W at *
        have HSZ : Hid (wr.heap.size < W.heap.size) := Lib.hid (by rw [← hW]; simp)
        clear hW
        generalize wr.heap.size = X at *
        have Od := Lib.hid (show W.drew.ownsRow w.heap.size 66 2 (.slice A3 O.length c3) O.length (O.flatMap cEd) from hoE)
        have Rd := Lib.hid (show Reads 2 cEd W.drew (.slice A4 P.length c4) P from Reads.of_own cEd_len haE)
        have Bd := Lib.hid (show Below w.heap.size w W.drew from hbE.drew)
        have Kd := Lib.hid (show Blk W.drew X 66 #[.int .i64 1, .string s] from kE)
        have O2 := Lib.hid (Od.out.alloc (.cells #[.int .i64 1, .string s] 66))
        have R2 := Lib.hid (Rd.out.alloc (.cells #[.int .i64 1, .string s] 66))
        have B2 := Lib.hid (Bd.out.alloc Bd.out.size (.cells #[.int .i64 1, .string s] 66))
        have K2 := Lib.hid (Blk.new W.drew 66 #[.int .i64 1, .string s])
        have HN2 := Lib.hid (show (Value.slice A3 O.length c3).ownBlock ≠ some W.heap.size from fun hg => by have h1 := HB2.out _ hg; have h2 := HSZ.out; omega)
        have z0 : W.drew.cell? ⟨X, 0, none⟩ = some (.int .i64 1) := e0
        have z1 : W.drew.cell? ⟨X, 1, none⟩ = some (.string s) := e1
        have hl6 : O.length + P.length ≤ 1000000 := by omega
        have hl7 : (O ++ P).length + [((1 : Int), s)].length ≤ 1000000 := by rw [List.length_append]; simp; omega
        have hs1 := Bd.out.size
        have hs2 := B2.out.size
        obtain ⟨N1, hN1⟩ : ∃ N1, N1 = (O ++ P).length := ⟨_, rfl⟩
        obtain ⟨N2, hN2⟩ : ∃ N2, N2 = (O ++ P ++ [((1 : Int), s)]).length := ⟨_, rfl⟩
        have HN1 := Lib.hid hN1
        have HN2' := Lib.hid hN2
        clear hN1 hN2
        clear hbE hoE haE kE
        go_region_law (first
          | (refine step_append_eds W.drew rfl _ _ rfl w.heap.size _ _ O P rfl Od.out rfl _ _ _ rfl Rd.out hl6 hs1 N1 HN1.out ?_; intro A6 c6 w6 o6 b6 g6; have d6 := Bd.out.trans b6; have k6 := Kd.out.grown g6 (fun e => HNE.out e.symm); have z6 : w6.cell? ⟨X, 0, none⟩ = some (.int .i64 1) := k6.cell 0; have y6 : w6.cell? ⟨X, 1, none⟩ = some (.string s) := k6.cell 1; have p7 := o6.alloc (.cells #[.int .i64 1, .string s] 66); have r7 := reads_one (Blk.new w6 66 #[.int .i64 1, .string s]); have d7 := d6.alloc d6.size (.cells #[.int .i64 1, .string s] 66); have s7 := d7.size)
          | (refine step_append_eds (W.drew.alloc (.cells #[.int .i64 1, .string s] 66)) rfl _ _ rfl w.heap.size _ _ O P rfl O2.out rfl _ _ _ rfl R2.out hl6 hs2 N1 HN1.out ?_; intro A6 c6 w6 o6 b6 g6; have d6 := B2.out.trans b6; have p7 := o6; have r7 := reads_one (K2.out.grown g6 (fun e => HN2.out e.symm)); have d7 := d6; have s7 := d7.size)
          | (refine step_append_eds _ rfl _ _ rfl w.heap.size N1 _ (O ++ P) [(1, s)] rfl p7 HN1.out _ 1 1 rfl r7 hl7 s7 N2 HN2'.out ?_; intro A8 c8 w8 o8 b8 g8; have d8 := d7.trans b8))
        all_goals
          go_wp2_with fail
          go_roundw
          case rel => exact ⟨k + 1, O ++ P ++ [(1, s)], [], by omega, by go_num, Lib.hid ⟨by rw [← HN2'.out]; exact o8, World.ownsRow_nil _ _ _ _, (fun g hg h => by cases h), by rw [List.length_append, List.length_append]; have := HLEN.out; simp; omega, by rw [← HEQ.out]; simp [tlF]⟩, Lib.hid d8⟩
          case measure => simp [intOf]; omega
      · go_upto_region 11 with fail
        generalize hW : wr.alloc (.cells #[.int .i64 2, .string s] 66) = W at *
        have HSZ : Hid (wr.heap.size < W.heap.size) := Lib.hid (by rw [← hW]; simp)
        clear hW
        have hown4 := haE.alloc (.cells #[.int .i64 3, .string s] 66)
        have hnews := World.news_of_block (cs := #[.int .i64 3, .string s]) (t := 66) (fr := (0, 0)) (heap_alloc_new W (.cells #[.int .i64 3, .string s] 66))
        have hb4 := hbE.alloc hbE.size (.cells #[.int .i64 3, .string s] 66)
        have hsz4 := hb4.size
        have HOE := Lib.hid (hoE.alloc (.cells #[.int .i64 3, .string s] 66))
        have HAE := Lib.hid haE
        go_wp2_with (at_builtin; refine wpList_append_own_at _ rfl (.tmp 31) (.tmp 35) 25 rfl w.heap.size 66 i0 (.agg #[.int .i64 0, .string ⟨#[]⟩]) 2 24 Tryd.underlying25 hi hz0 hz1 hz2 rfl (by decide) _ _ _ rfl hown4 ⟨W.heap.size, 0, none⟩ 1 1 [.int .i64 3, .string s] rfl rfl hnews (by simp [Value.oneCell']) (by unfold maxLen; omega) (by omega) hsz4 ?_; intro v5 w5 hown5 hg5 _ hat5)
        have hb5 : Below w.heap.size w w5 := hb4.grown hg5 hsz4 (fun z hz => (HAE.out.lt z hz).1)
        have ho5 : w5.ownsRow w.heap.size 66 2 (.slice A3 O.length c3) O.length (O.flatMap cEd) := by
          refine HOE.out.kept hg5 ?_
          cases hy : (Value.slice A3 O.length c3).ownBlock with
          | none => exact .inl rfl
          | some g => exact .inr fun e => hne.out g hy e.symm
        have hn5 : ∀ g, (Value.slice A3 O.length c3).ownBlock = some g → v5.ownBlock ≠ some g := fun g hg hv => by
          rcases hat5 with h | h
          · exact hne.out g hg (h.symm.trans hv)
          · rw [hv] at h
            have h1 := HB2.out g hg
            have h2 := HSZ.out
            injection h with h
            simp at h
            omega
        have HB5 := Lib.hid hb5
        have HO5 := Lib.hid ho5
        have HN5 := Lib.hid hn5
        have HA5 := Lib.hid hown5
        clear hnews hown4 hg5 hb4 hat5 hb5 ho5 hn5 hown5
        go_roundw
        case rel => exact ⟨k + 1, O, P ++ [(3, s)], by omega, by go_num, Lib.hid ⟨HO5.out, by rw [List.length_append, flat_snocP]; exact HA5.out, HN5.out, by rw [List.length_append]; have := HLEN.out; simp; omega, HEQ.out⟩, HB5⟩
        case measure => simp [intOf]; omega
      · go_upto_region 9 with fail
        generalize hW : wr.alloc (.cells #[.int .i64 3, .string s] 66) = W at *
        have HSZ : Hid (wr.heap.size < W.heap.size) := Lib.hid (by rw [← hW]; simp)
        clear hW
        have hown4 := hoE.alloc (.cells #[.int .i64 2, .string s] 66)
        have hnews := World.news_of_block (cs := #[.int .i64 2, .string s]) (t := 66) (fr := (0, 0)) (heap_alloc_new W (.cells #[.int .i64 2, .string s] 66))
        have hb4 := hbE.alloc hbE.size (.cells #[.int .i64 2, .string s] 66)
        have hsz4 := hb4.size
        have HAE := Lib.hid (haE.alloc (.cells #[.int .i64 2, .string s] 66))
        have HOE := Lib.hid hoE
        go_wp2_with (at_builtin; refine wpList_append_own_at _ rfl (.tmp 23) (.tmp 27) 25 rfl w.heap.size 66 i0 (.agg #[.int .i64 0, .string ⟨#[]⟩]) 2 24 Tryd.underlying25 hi hz0 hz1 hz2 rfl (by decide) _ _ _ rfl hown4 ⟨W.heap.size, 0, none⟩ 1 1 [.int .i64 2, .string s] rfl rfl hnews (by simp [Value.oneCell']) (by unfold maxLen; omega) (by omega) hsz4 ?_; intro v5 w5 hown5 hg5 _ hat5)
        have hb5 : Below w.heap.size w w5 := hb4.grown hg5 hsz4 (fun z hz => (HOE.out.lt z hz).1)
        have ha5 : w5.ownsRow w.heap.size 66 2 (.slice A4 P.length c4) P.length (P.flatMap cEd) := by
          refine HAE.out.kept hg5 ?_
          cases hy : (Value.slice A4 P.length c4).ownBlock with
          | none => exact .inl rfl
          | some g => exact .inr fun e => hne.out g e.symm hy
        have hn5 : ∀ g, v5.ownBlock = some g → (Value.slice A4 P.length c4).ownBlock ≠ some g := fun g hg hv => by
          rcases hat5 with h | h
          · exact hne.out g (h.symm.trans hg) hv
          · rw [hg] at h
            have h1 := HB1.out g hv
            have h2 := HSZ.out
            injection h with h
            simp at h
            omega
        have HB5 := Lib.hid hb5
        have HA5 := Lib.hid ha5
        have HN5 := Lib.hid hn5
        have HO5 := Lib.hid hown5
        clear hnews hown4 hg5 hb4 hat5 hb5 ha5 hn5 hown5
        go_roundw
        case rel => exact ⟨k + 1, O ++ [(2, s)], P, by omega, by go_num, Lib.hid ⟨by rw [List.length_append, flat_snocP]; exact HO5.out, HA5.out, HN5.out, by rw [List.length_append]; have := HLEN.out; simp; omega, by rw [← HEQ.out, List.append_assoc]; rfl⟩, HB5⟩
        case measure => simp [intOf]; omega
    · obtain rfl : k = l.length := by omega
      have HFIN : Hid (O ++ P = TL) := Lib.hid (by have := heqO; rw [List.drop_length] at this; exact this)
      have HRA := Lib.hid (Reads.of_own cEd_len ha.out)
      have hbs := hb.out.size
      clear hI hoO haO hneO hlenO heqO
      go_wp2_with (at_builtin; refine wpList_append_eds _ rfl (.tmp 38) (.tmp 39) rfl w.heap.size _ O P rfl ho.out _ _ _ rfl HRA.out (by omega) hbs ?_; intro A5 c5 w5 hown5 hb5 _)
      rw [List.length_append] at hown5
      have HO5 := Lib.hid hown5
      have HB5 := Lib.hid (hb.out.trans hb5)
      clear hown5 hb5
      go_ret
      exact ⟨_, rfl, by rw [← HFIN.out, List.length_append]; exact HO5.out, HB5.out⟩

set_option maxRecDepth 100000 in
set_option maxHeartbeats 8000000 in
theorem turnedG_any (w : World) (v : Value) (hs : List Hk) (h : HksIn w v hs) (hl : hs.length ≤ 1000) (hll : ∀ x ∈ hs, x.ls.length ≤ 1000 ∧ ∀ e ∈ x.ls, e.1 = 1 ∨ e.1 = 2 ∨ e.1 = 3) :
    Calls Tryd.prog 27 #[v] w (HunksTo 64 66 (hs.map turnG) w) := by
  obtain ⟨A, c, rfl⟩ := h.form
  have hnm : c ≤ 9223372036854775807 := by have := h.len.2.2; unfold maxLen at this; omega
  have hnc := h.len.2.1
  have HH := Lib.hid h
  have HLL := Lib.hid hll
  obtain ⟨i0, hi, hz0, hz1, hz2⟩ := info_parts hunkInfo
  clear h hll
  go_enter Tryd.func27, Tryd.ntmps27
  go_wp2_with fail
  go_loopw [3, 8] (fun s3 s8 wr => ∃ (i : Nat) (vals : List Value), i ≤ hs.length ∧ s8 = .int .i64 i ∧ Hid (wr.ownsRow w.heap.size 64 5 s3 i vals) ∧ Hid (HkV 66 wr w.heap.size vals ((hs.take i).map turnG)) ∧ Hid (Below w.heap.size w wr)) (fun _ s8 _ => hs.length - (intOf s8).toNat)
  case atStart => exact ⟨0, [], Nat.zero_le _, rfl, Lib.hid (World.ownsRow_nil _ _ _ _), Lib.hid rfl, Lib.hid (Below.refl _ _)⟩
  case round =>
    obtain ⟨i, vals, hil, rfl, hown, hv, hb⟩ := hrel
    have i0' : (0 : Int) ≤ (i : Int) := Int.natCast_nonneg _
    by_cases hlt : i < hs.length
    · obtain ⟨x, hx⟩ : ∃ x, hs[i]? = some x := ⟨_, List.getElem?_eq_getElem hlt⟩
      obtain ⟨ad, vl, rfl, c0, c1, c2, c3, c4, hrd⟩ := HH.out.at2 hb.out hx
      obtain ⟨hxl, hxo⟩ := HLL.out x (List.mem_of_getElem? hx)
      have HF := Lib.hid hx
      obtain ⟨at_, del, to_, add, ls⟩ := x
      simp only at c0 c1 c2 c3 hrd hxl hxo
      obtain ⟨Al, cl, rfl⟩ := hrd.form
      have hi1 : (i : Int) < (hs.length : Int) := by omega
      have b1 := hb.out.alloc hb.out.size (.cells #[.int .i64 at_, .int .i64 del, .int .i64 to_, .int .i64 add, .slice Al ls.length cl] 64)
      have O1 := Lib.hid (hown.out.alloc (.cells #[.int .i64 at_, .int .i64 del, .int .i64 to_, .int .i64 add, .slice Al ls.length cl] 64))
      have V1 := Lib.hid (hv.out.keep fun v n xs hr => hr.alloc (.cells #[.int .i64 at_, .int .i64 del, .int .i64 to_, .int .i64 add, .slice Al ls.length cl] 64))
      have KX := Lib.hid (Blk.new wr 64 #[.int .i64 at_, .int .i64 del, .int .i64 to_, .int .i64 add, .slice Al ls.length cl])
      have hOX : u3.ownBlock ≠ some wr.heap.size := fun hg => by have := (hown.out.lt _ hg).2; omega
      obtain ⟨TL, hTL⟩ : ∃ TL, TL = tlF [] ls := ⟨_, rfl⟩
      have T := Lib.hid (fun (w' : World) (hb' : Below w.heap.size w w') => (by rw [hTL]; exact turnedE_any w' (.slice Al ls.length cl) ls (hrd.below hb') hxl hxo : Calls Tryd.prog 56 #[.slice Al ls.length cl] w' (OwnTo 66 2 cEd TL w')))
      have HTL := Lib.hid hTL
      clear hTL
      have B1 := Lib.hid b1
      clear hx hrd hxl hxo b1 hown hv hb
      go_upto_block 1 with fail
      go_cut [3] (fun x3 wy => ∃ vals2, Hid (wy.ownsRow w.heap.size 64 5 x3 (i + 1) vals2) ∧ Hid (HkV 66 wy w.heap.size vals2 ((hs.take (i + 1)).map turnG)) ∧ Hid (Below w.heap.size w wy))
      case first =>
        go_upto_region 5 with fail
        generalize hW1 : wr.alloc (.cells #[.int .i64 at_, .int .i64 del, .int .i64 to_, .int .i64 add, .slice Al ls.length cl] 64) = W1 at *
        generalize wr.heap.size = X at *
        clear hW1 c0 c1 c2 c3 c4
        have z0 : W1.drew.cell? ⟨X, 0, none⟩ = some (.int .i64 at_) ∧ W1.drew.cell? ⟨X, 1, none⟩ = some (.int .i64 del) ∧ W1.drew.cell? ⟨X, 2, none⟩ = some (.int .i64 to_) ∧ W1.drew.cell? ⟨X, 3, none⟩ = some (.int .i64 add) ∧ W1.drew.cell? ⟨X, 4, none⟩ = some (.slice Al ls.length cl) := ⟨KX.out.cell 0, KX.out.cell 1, KX.out.cell 2, KX.out.cell 3, KX.out.cell 4⟩
        have KXd : Hid (Blk W1.drew X 64 #[.int .i64 at_, .int .i64 del, .int .i64 to_, .int .i64 add, .slice Al ls.length cl]) := Lib.hid KX.out
        have ZZ := Lib.hid (fun (w' : World) (k : Blk w' X 64 #[.int .i64 at_, .int .i64 del, .int .i64 to_, .int .i64 add, .slice Al ls.length cl]) => (show w'.cell? ⟨X, 0, none⟩ = some (.int .i64 at_) ∧ w'.cell? ⟨X, 1, none⟩ = some (.int .i64 del) ∧ w'.cell? ⟨X, 2, none⟩ = some (.int .i64 to_) ∧ w'.cell? ⟨X, 3, none⟩ = some (.int .i64 add) ∧ w'.cell? ⟨X, 4, none⟩ = some (.slice Al ls.length cl) from ⟨k.cell 0, k.cell 1, k.cell 2, k.cell 3, k.cell 4⟩))
        have HB := Lib.hid (fun (w' : World) (b' : Below W1.drew.heap.size W1.drew w') => B1.out.drew.trans (b'.mono B1.out.drew.size))
        go_region_held3 (fun w' => w'.cell? ⟨X, 0, none⟩ = some (.int .i64 at_) ∧ w'.cell? ⟨X, 1, none⟩ = some (.int .i64 del) ∧ w'.cell? ⟨X, 2, none⟩ = some (.int .i64 to_) ∧ w'.cell? ⟨X, 3, none⟩ = some (.int .i64 add) ∧ w'.cell? ⟨X, 4, none⟩ = some (.slice Al ls.length cl)) (first | exact z0 | exact z6 | exact ZZ.out _ (KX6.alloc _) | exact z7) (first
          | (refine step_append_lies _ (by rfl) _ _ 50 (by rfl) w.heap.size 64 i0 (.agg #[.int .i64 0, .int .i64 0, .int .i64 0, .int .i64 0, .slice none 0 0]) 5 56 Tryd.underlying50 hi hz0 hz1 hz2 rfl (by omega) _ i vals (by rfl) (hown6.alloc _) ⟨w6.heap.size, 0, none⟩ 1 1 [.int .i64 to_, .int .i64 add, .int .i64 at_, .int .i64 del, .slice A6 TL.length c6] (by rfl) (by rfl) (World.news_of_block (cs := #[.int .i64 to_, .int .i64 add, .int .i64 at_, .int .i64 del, .slice A6 TL.length c6]) (t := 64) (fr := (0, 0)) (heap_alloc_new w6 _)) (by simp [Value.oneCell']) (by omega) (by unfold maxLen; omega) (by omega) (by simp; omega) (w6.heap.size + 1) (by simp) ?_; intro gg cap w7 hown7 hg7 hat hlt7; have d7 := (d6.alloc d6.size (.cells #[.int .i64 to_, .int .i64 add, .int .i64 at_, .int .i64 del, .slice A6 TL.length c6] 64)).grown hg7 (by simp; omega) (fun z hz => (hown6.lt z hz).1); have z7 := ZZ.out _ ((KX6.alloc _).grown hg7 (fun e => hOX e.symm)))
          | (go_at_call 56; (with_reducible refine (T.out W1.drew B1.out.drew).mono ?_); rintro e w6 ⟨v6, rfl, o6, b6⟩; have d6 := HB.out _ b6; have KX6 := KXd.out.below b6 KXd.out.lt; have z6 := ZZ.out _ KX6; have hown6 := own2_keep O1.out.drew b6; have hws6 := d6.size; obtain ⟨A6, c6, rfl⟩ := own_formP o6))
        all_goals
          go_wp2_with fail
          go_meet
          exact ⟨vals ++ [.int .i64 to_, .int .i64 add, .int .i64 at_, .int .i64 del, .slice A6 TL.length c6], Lib.hid hown7, Lib.hid (by
            rw [take_snocP HF.out, List.map_append]
            show HkV 66 w7 w.heap.size _ (List.map turnG (hs.take i) ++ [⟨to_, add, at_, del, tlF [] ls⟩])
            rw [← HTL.out]
            exact HkV.snoc (h := ⟨to_, add, at_, del, TL⟩) (kept_ne ((own2_le o6 B1.out.drew.size).alloc _) (hown6.alloc _) (by decide) hg7) (V1.out.keep fun v n xs hr => kept_ne ((own2_keep hr.drew b6).alloc _) (hown6.alloc _) (by decide) hg7)), Lib.hid d7⟩
      case rest =>
        obtain ⟨vals2, h1, h2, h3⟩ := hcut
        go_wp2
        go_roundw
        case rel => exact ⟨i + 1, vals2, by omega, by go_num, h1, h2, h3⟩
        case measure => simp [intOf]; omega
    · obtain rfl : i = hs.length := by omega
      have HL : Hid (hs.take hs.length = hs) := Lib.hid (by rw [List.take_length])
      go_wp2
      go_ret
      exact ⟨_, vals, rfl, by rw [List.length_map]; exact hown.out, by rw [HL.out] at hv; exact hv.out, hb.out⟩
end Go.Proofs.YtdpoeagmeiedcaaDoor

namespace Go.Proofs.YtdpoeagmeiedcaaDoor
open Go Go.RowKit

/-- It says so only of at most 50 short lines. -/
def FewPS (n m : Nat) (xs ys : List ByteArray) (w : World) (e : Ending) (w' : World) : Prop := ∃ b : Bool, e = .returned (.bool b) ∧ (b = true → n ≤ 50 ∧ m ≤ 50 ∧ FewL xs ys) ∧ Below w.heap.size w w'
set_option maxRecDepth 100000 in
set_option maxHeartbeats 2000000 in
theorem few12S_any (w : World) (v u : Value) (xs ys : List ByteArray) (h : Strs w v xs) (g : Strs w u ys) : Calls Tryd.prog 20 #[v, u] w (FewPS xs.length ys.length xs ys w) := by
  have F := Lib.hid (few_any w v u xs ys h g)
  obtain ⟨A, n, c, rfl⟩ := h.form
  obtain ⟨B, m, d, rfl⟩ := g.form
  obtain rfl := h.len.1
  obtain rfl := g.len.1
  clear h g
  obtain ⟨n, hn⟩ : ∃ n, n = xs.length := ⟨_, rfl⟩
  obtain ⟨m, hm⟩ : ∃ m, m = ys.length := ⟨_, rfl⟩
  rw [← hn, ← hm] at F ⊢
  clear hn hm
  by_cases h1 : n ≤ 50
  · by_cases h2 : m ≤ 50
    · have i1 : (n : Int) ≤ 50 := by omega
      have i2 : (m : Int) ≤ 50 := by omega
      have HL := Lib.hid (And.intro h1 h2)
      clear h1 h2
      go_enter Tryd.func20, Tryd.ntmps20
      go_wp2_with fail
      refine F.out.mono ?_
      rintro e w2 ⟨b, rfl, hF, rfl⟩
      have HFF := Lib.hid hF
      clear hF
      go_wp2
      go_ret
      exact ⟨_, rfl, fun h => ⟨HL.out.1, HL.out.2, HFF.out h⟩, Below.refl _ _⟩
    · have i1 : (n : Int) ≤ 50 := by omega
      have i2 : ¬ (m : Int) ≤ 50 := by omega
      go_enter Tryd.func20, Tryd.ntmps20
      go_wp2
      go_ret
      exact ⟨_, rfl, (fun h => by first | cases h | simp at h), Below.refl _ _⟩
  · have i1 : ¬ (n : Int) ≤ 50 := by omega
    go_enter Tryd.func20, Tryd.ntmps20
    go_wp2
    go_ret
    exact ⟨_, rfl, (fun h => by first | cases h | simp at h), Below.refl _ _⟩

theorem tlF_len : ∀ (l p : List EdI), (tlF p l).length = p.length + l.length
  | [], p => rfl
  | e :: l, p => by
    unfold tlF
    split
    · rw [List.length_cons, tlF_len l p, List.length_cons]; omega
    · split
      · rw [tlF_len l _, List.length_append, List.length_cons]; simp; omega
      · rw [List.length_append, List.length_cons, tlF_len l [], List.length_cons]; simp
theorem turnG_ok {h : Hk} (q : HkOk h) : HkOk (turnG h) := ⟨by show (tlF [] h.ls).length ≤ 200; rw [tlF_len]; have := q.l; simp; omega, q.t1, q.t2, q.a1, q.a2⟩
theorem hunksS_ops : ∀ (ss : List Seg) (p q : Nat), (∀ s ∈ ss, GoodS s) → ∀ h ∈ hunksS p q ss, h.ls.all okOp = true
  | [], _, _, _, h, hh => by cases hh
  | (g, r) :: ss, p, q, hs, h, hh => by
    rcases List.mem_cons.1 (show h ∈ (⟨((p + dels g : Nat) : Int), (dels r : Int), ((q + adds g : Nat) : Int), (adds r : Int), r⟩ : Hk) :: hunksS (p + dels g + dels r) (q + adds g + adds r) ss from hh) with rfl | hm
    · exact (hs (g, r) List.mem_cons_self).2
    · exact hunksS_ops ss _ _ (fun s h => hs s (List.mem_cons_of_mem _ h)) h hm
theorem hunks_ops (xs ys : List ByteArray) (a : Nat) : ∀ h ∈ hunksP (edI (ed xs ys)) a, ∀ e ∈ h.ls, e.1 = 1 ∨ e.1 = 2 ∨ e.1 = 3 := fun h hh e he => by
  obtain ⟨ss, tail, hp, hf, ht, hg⟩ := hunks_segs (edI (ed xs ys)) a (edI_ok xs ys)
  rw [hp] at hh
  have := hunksS_ops ss 0 0 hg h hh
  rw [List.all_eq_true] at this
  exact ops_of_ok (this e he)
theorem hunksS_le : ∀ (ss : List Seg) (p q N : Nat) (tail : List EdI), p + (linesA (flatS ss tail)).length ≤ N → q + (linesB (flatS ss tail)).length ≤ N → ∀ h ∈ hunksS p q ss, h.at_ ≤ N ∧ h.del ≤ N ∧ h.to_ ≤ N ∧ h.add ≤ N
  | [], _, _, _, _, _, _, h, hh => by cases hh
  | (g, r) :: ss, p, q, N, tail, hp, hq, h, hh => by
    have ea : flatS ((g, r) :: ss) tail = g ++ (r ++ flatS ss tail) := rfl
    rw [ea] at hp hq
    rw [linesA_app, linesA_app, List.length_append, List.length_append, linesA_len, linesA_len] at hp
    rw [linesB_app, linesB_app, List.length_append, List.length_append, linesB_len, linesB_len] at hq
    rcases List.mem_cons.1 (show h ∈ (⟨((p + dels g : Nat) : Int), (dels r : Int), ((q + adds g : Nat) : Int), (adds r : Int), r⟩ : Hk) :: hunksS (p + dels g + dels r) (q + adds g + adds r) ss from hh) with rfl | hm
    · exact ⟨by show ((p + dels g : Nat) : Int) ≤ N; omega, by show ((dels r : Nat) : Int) ≤ N; omega, by show ((q + adds g : Nat) : Int) ≤ N; omega, by show ((adds r : Nat) : Int) ≤ N; omega⟩
    · exact hunksS_le ss _ _ N tail (by omega) (by omega) h hm
theorem hunks_59 (xs ys : List ByteArray) (a : Nat) (hx : xs.length ≤ 50) (hy : ys.length ≤ 50) : ∀ h ∈ hunksP (edI (ed xs ys)) a, h.at_ ≤ 59 ∧ h.del ≤ 59 ∧ h.to_ ≤ 59 ∧ h.add ≤ 59 := fun h hh => by
  obtain ⟨e1, e2⟩ := edI_lines xs ys
  obtain ⟨ss, tail, hp, hf, ht, hg⟩ := hunks_segs (edI (ed xs ys)) a (edI_ok xs ys)
  rw [hp] at hh
  have := hunksS_le ss 0 0 50 tail (by rw [hf, e1]; omega) (by rw [hf, e2]; omega) h hh
  omega
end Go.Proofs.YtdpoeagmeiedcaaDoor

namespace Go.Proofs.YtdpoeagmeiedcaaDoor
open Go Go.RowKit

def ReachC (l : List EdI) (a j k : Nat) : Prop := ∃ x : EdI, l[j]? = some x ∧ x.1 ≠ 1 ∧ j ≤ k + a ∧ k ≤ j + a ∧ ∀ (p : Nat) (y : EdI), l[p]? = some y → p ≠ j → ((k ≤ p ∧ p ≤ j) ∨ (j ≤ p ∧ p ≤ k)) → y.1 = 1
theorem near_reach (l : List EdI) : ∀ (a j k : Nat) (x : EdI), l[j]? = some x → x.1 ≠ 1 → j ≤ k + a → k ≤ j + a → ∃ j', ReachC l a j' k
  | 0, j, k, x, hx, h1, h2, h3 => ⟨j, x, hx, h1, h2, h3, fun p y hy hp hb => by omega⟩
  | a + 1, j, k, x, hx, h1, h2, h3 => by
    by_cases h : ∃ (p : Nat) (y : EdI), l[p]? = some y ∧ y.1 ≠ 1 ∧ p ≤ k + a ∧ k ≤ p + a
    · obtain ⟨p, y, hy, g1, g2, g3⟩ := h
      obtain ⟨j', z, hz, k1, k2, k3, k4⟩ := near_reach l a p k y hy g1 g2 g3
      exact ⟨j', z, hz, k1, by omega, by omega, k4⟩
    · refine ⟨j, x, hx, h1, h2, h3, fun p y hy hp hb => ?_⟩
      by_cases hy1 : y.1 = 1
      · exact hy1
      · exact absurd ⟨p, y, hy, hy1, by omega, by omega⟩ h
/-- Marks that are right, and whole for the changes before the i-th edit. -/
structure Marks (l : List EdI) (a i : Nat) (m : Nat → Bool) : Prop where
  so : ∀ k, k < l.length → m k = true → NearC l a k
  co : ∀ j k, j < i → k < l.length → ReachC l a j k → m k = true
theorem Marks.zero (l : List EdI) (a : Nat) : Marks l a 0 (fun _ => false) := ⟨fun _ _ h => (by cases h), fun _ _ h => (by omega)⟩
theorem Marks.near {l : List EdI} {a : Nat} {m : Nat → Bool} (h : Marks l a l.length m) : ∀ k, k < l.length → (m k = true ↔ NearC l a k) := fun k hk => ⟨h.so k hk, fun ⟨j, x, hx, h1, h2, h3⟩ => by
  obtain ⟨j', hr⟩ := near_reach l a j k x hx h1 h2 h3
  obtain ⟨z, hz, _⟩ := id hr
  exact h.co j' k (List.getElem?_eq_some_iff.1 hz).1 hk hr⟩
theorem Marks.keep {l : List EdI} {a i : Nat} {m : Nat → Bool} {x : EdI} (h : Marks l a i m) (hx : l[i]? = some x) (h1 : x.1 = 1) : Marks l a (i + 1) m := ⟨h.so, fun j k hj hk hr => by
  by_cases e : j = i
  · subst e
    obtain ⟨y, hy, h2, _⟩ := hr
    rw [hx] at hy
    cases hy
    exact absurd h1 h2
  · exact h.co j k (by omega) hk hr⟩
def setM (m : Nat → Bool) (p : Nat) : Nat → Bool := fun k => if k = p then true else m k
theorem setM_le {m : Nat → Bool} {p k : Nat} (h : m k = true) : setM m p k = true := by unfold setM; split <;> first | rfl | exact h
theorem setM_self (m : Nat → Bool) (p : Nat) : setM m p p = true := by unfold setM; rw [if_pos rfl]
theorem Marks.set {l : List EdI} {a i p : Nat} {m : Nat → Bool} (h : Marks l a i m) (hp : NearC l a p) : Marks l a i (setM m p) := ⟨fun k hk hm => by
  unfold setM at hm
  split at hm
  · rename_i e; rw [e]; exact hp
  · exact h.so k hk hm, fun j k hj hk hr => setM_le (h.co j k hj hk hr)⟩
/-- To the left of the i-th, t places are marked. -/
structure InL (l : List EdI) (a i t : Nat) (m : Nat → Bool) : Prop where
  ta : t ≤ a
  ti : t ≤ i
  me : m i = true
  al : ∀ u, 1 ≤ u → u ≤ t → m (i - u) = true ∧ ∃ y, l[i - u]? = some y ∧ y.1 = 1
structure InR2 (l : List EdI) (a i t : Nat) (m : Nat → Bool) : Prop where
  ta : t ≤ a
  ti : i + t < l.length
  me : m i = true
  al : ∀ u, 1 ≤ u → u ≤ t → m (i + u) = true ∧ ∃ y, l[i + u]? = some y ∧ y.1 = 1
def LeftD (l : List EdI) (a i : Nat) (m : Nat → Bool) : Prop := m i = true ∧ ∀ k, k < l.length → k ≤ i → ReachC l a i k → m k = true
def RightD (l : List EdI) (a i : Nat) (m : Nat → Bool) : Prop := ∀ k, k < l.length → i ≤ k → ReachC l a i k → m k = true
theorem LeftD.set {l : List EdI} {a i p : Nat} {m : Nat → Bool} (h : LeftD l a i m) : LeftD l a i (setM m p) := ⟨setM_le h.1, fun k hk hi hr => setM_le (h.2 k hk hi hr)⟩
theorem Marks.full {l : List EdI} {a i : Nat} {m : Nat → Bool} (h : Marks l a i m) (hL : LeftD l a i m) (hR : RightD l a i m) : Marks l a (i + 1) m := ⟨h.so, fun j k hj hk hr => by
  by_cases e : j = i
  · subst e
    by_cases hk2 : k ≤ j
    · exact hL.2 k hk hk2 hr
    · exact hR k hk (by omega) hr
  · exact h.co j k (by omega) hk hr⟩
theorem InL.step {l : List EdI} {a i t : Nat} {m : Nat → Bool} {x y : EdI} (h : InL l a i t m) (hx : l[i]? = some x) (h1 : x.1 ≠ 1) (hta : t < a) (hti : t + 1 ≤ i) (hy : l[i - (t + 1)]? = some y) (hy1 : y.1 = 1) (hm : Marks l a i m) : InL l a i (t + 1) (setM m (i - (t + 1))) ∧ Marks l a i (setM m (i - (t + 1))) :=
  ⟨⟨hta, hti, setM_le h.me, fun u u1 u2 => by
    by_cases e : u = t + 1
    · subst e; exact ⟨setM_self _ _, y, hy, hy1⟩
    · obtain ⟨g1, g2⟩ := h.al u u1 (by omega); exact ⟨setM_le g1, g2⟩⟩, hm.set ⟨i, x, hx, h1, by omega, by omega⟩⟩
theorem InL.done {l : List EdI} {a i t : Nat} {m : Nat → Bool} (h : InL l a i t m) (hn : ¬ (t < a ∧ t + 1 ≤ i ∧ ∃ y, l[i - (t + 1)]? = some y ∧ y.1 = 1)) : LeftD l a i m := ⟨h.me, fun k hk hi hr => by
  obtain ⟨x, hx, h1, h2, h3, h4⟩ := hr
  have hil := (List.getElem?_eq_some_iff.1 hx).1
  by_cases hu : i - k ≤ t
  · by_cases h0 : i - k = 0
    · rw [show k = i by omega]; exact h.me
    · have := (h.al (i - k) (by omega) hu).1
      rwa [show i - (i - k) = k by omega] at this
  · exfalso
    apply hn
    obtain ⟨y, hy⟩ : ∃ y, l[i - (t + 1)]? = some y := ⟨_, List.getElem?_eq_getElem (by omega)⟩
    exact ⟨by omega, by omega, y, hy, h4 _ y hy (by omega) (.inl ⟨by omega, by omega⟩)⟩⟩
theorem InR2.step {l : List EdI} {a i t : Nat} {m : Nat → Bool} {x y : EdI} (h : InR2 l a i t m) (hx : l[i]? = some x) (h1 : x.1 ≠ 1) (hta : t < a) (hy : l[i + (t + 1)]? = some y) (hy1 : y.1 = 1) (hm : Marks l a i m) : InR2 l a i (t + 1) (setM m (i + (t + 1))) ∧ Marks l a i (setM m (i + (t + 1))) :=
  ⟨⟨hta, (List.getElem?_eq_some_iff.1 hy).1, setM_le h.me, fun u u1 u2 => by
    by_cases e : u = t + 1
    · subst e; exact ⟨setM_self _ _, y, hy, hy1⟩
    · obtain ⟨g1, g2⟩ := h.al u u1 (by omega); exact ⟨setM_le g1, g2⟩⟩, hm.set ⟨i, x, hx, h1, by omega, by omega⟩⟩
theorem InR2.done {l : List EdI} {a i t : Nat} {m : Nat → Bool} (h : InR2 l a i t m) (hn : ¬ (t < a ∧ ∃ y, l[i + (t + 1)]? = some y ∧ y.1 = 1)) : RightD l a i m := fun k hk hi hr => by
  obtain ⟨x, hx, h1, h2, h3, h4⟩ := hr
  by_cases hu : k - i ≤ t
  · by_cases h0 : k - i = 0
    · rw [show k = i by omega]; exact h.me
    · have := (h.al (k - i) (by omega) hu).1
      rwa [show i + (k - i) = k by omega] at this
  · exfalso
    apply hn
    obtain ⟨y, hy⟩ : ∃ y, l[i + (t + 1)]? = some y := ⟨_, List.getElem?_eq_getElem (by omega)⟩
    exact ⟨by omega, y, hy, h4 _ y hy (by omega) (.inr ⟨by omega, by omega⟩)⟩
theorem boolInfoP : (Tryd.prog.info? 4).map (fun i => (i.zero, i.size, i.bytes)) = some (some (.bool false), 1, 1) := by kernel_rfl
end Go.Proofs.YtdpoeagmeiedcaaDoor

namespace Go.Proofs.YtdpoeagmeiedcaaDoor
open Go Go.RowKit

/-- Hunks whose lines lie in rows of their own, all before M. -/
def HkU (w : World) (B M : Nat) : List Value → List Hk → Prop
  | vals, [] => vals = []
  | vals, h :: hs => ∃ vl rest, vals = .int .i64 h.at_ :: .int .i64 h.del :: .int .i64 h.to_ :: .int .i64 h.add :: vl :: rest ∧ w.ownsRow B 91 2 vl h.ls.length (h.ls.flatMap cEd) ∧ (∀ g, vl.ownBlock = some g → g < M) ∧ HkU w B M rest hs
theorem HkU.toV {w : World} {B M : Nat} : ∀ {hs : List Hk} {vals : List Value}, HkU w B M vals hs → HkV 91 w B vals hs
  | [], _, h => h
  | _ :: _, _, ⟨vl, rest, hv, h1, _, h2⟩ => ⟨vl, rest, hv, h1, h2.toV⟩
theorem HkV.toU {w : World} {B M : Nat} (hM : w.heap.size ≤ M) : ∀ {hs : List Hk} {vals : List Value}, HkV 91 w B vals hs → HkU w B M vals hs
  | [], _, h => h
  | _ :: _, _, ⟨vl, rest, hv, h1, h2⟩ => ⟨vl, rest, hv, h1, fun g hg => Nat.lt_of_lt_of_le (h1.lt g hg).2 hM, h2.toU hM⟩
theorem HkV.len {e : TypeId} {w : World} {B : Nat} : ∀ {hs : List Hk} {vals : List Value}, HkV e w B vals hs → vals.length = hs.length * 5
  | [], _, h => by rw [show _ = [] from h]; rfl
  | _ :: hs, _, ⟨vl, rest, hv, h1, h2⟩ => by rw [hv]; simp only [List.length_cons]; rw [h2.len]; omega
theorem HkU.keep {w w' : World} {B M : Nat} (hk : ∀ v n xs, w.ownsRow B 91 2 v n xs → (∀ g, v.ownBlock = some g → g < M) → w'.ownsRow B 91 2 v n xs) : ∀ {hs : List Hk} {vals : List Value}, HkU w B M vals hs → HkU w' B M vals hs
  | [], _, h => h
  | _ :: _, _, ⟨vl, rest, hv, h1, h3, h2⟩ => ⟨vl, rest, hv, hk _ _ _ h1 h3, h3, HkU.keep hk h2⟩
abbrev fiveV (h : Hk) (vl : Value) : List Value := [.int .i64 h.at_, .int .i64 h.del, .int .i64 h.to_, .int .i64 h.add, vl]
structure LI (w0 w : World) (gg cap G n : Nat) (m : Nat → Bool) (pre : List Hk) (h : Hk) (vp : List Value) (vl : Value) (M : Nat) : Prop where
  o : w.ownsRow w0.heap.size 114 5 (.slice (some ⟨gg, 0, none⟩) (pre.length + 1) cap) (pre.length + 1) (vp ++ fiveV h vl)
  bm : w0.heap.size ≤ M
  ms : M ≤ w.heap.size
  u : HkU w w0.heap.size M vp pre
  l : w.ownsRow M 91 2 vl h.ls.length (h.ls.flatMap cEd)
  r : w.rowIs G 4 n (fun t => .bool (m t))
  b : Below w0.heap.size w0 w
theorem rowIs_blk {w : World} {b n : Nat} {t : TypeId} {f : Nat → Value} (h : w.rowIs b t n f) : ∃ cs, Blk w b t cs := by
  obtain ⟨c, hb, _⟩ := h
  exact ⟨c, hb⟩
section
variable {w0 w : World} {gg cap G n : Nat} {m : Nat → Bool} {pre : List Hk} {h : Hk} {vp : List Value} {vl : Value} {M : Nat}
theorem LI.alloc (q : LI w0 w gg cap G n m pre h vp vl M) (o : Obj) : LI w0 (w.alloc o) gg cap G n m pre h vp vl M :=
  ⟨q.o.alloc o, q.bm, by have := q.ms; simp; omega, q.u.keep fun v n xs hr _ => hr.alloc o, q.l.alloc o, q.r.alloc o, q.b.alloc q.b.size o⟩
theorem LI.drew (q : LI w0 w gg cap G n m pre h vp vl M) : LI w0 w.drew gg cap G n m pre h vp vl M :=
  ⟨q.o, q.bm, q.ms, HkU.keep (w := w) (w' := w.drew) (fun _ _ _ hr _ => hr) q.u, q.l, q.r, q.b.drew⟩
theorem LI.vlen (q : LI w0 w gg cap G n m pre h vp vl M) : vp.length = pre.length * 5 := q.u.toV.len
theorem LI.cell (q : LI w0 w gg cap G n m pre h vp vl M) (j : Nat) (hj : j < 5) : w.cell? ⟨gg, pre.length * 5 + j, none⟩ = (fiveV h vl)[j]? := by
  rw [q.o.cellAt (pre.length * 5 + j) (by omega), ← q.vlen, List.getElem?_append_right (by omega), Nat.add_sub_cancel_left]
theorem LI.frozen (q : LI w0 w gg cap G n m pre h vp vl M) (j : Nat) : w.frozen? ⟨gg, pre.length * 5 + j, none⟩ = false := q.o.frozenAt _
theorem set_five (a b c d e x : Value) (j : Nat) : (vp ++ [a, b, c, d, e]).set (vp.length + j) x = vp ++ [a, b, c, d, e].set j x := by
  rw [List.set_append_right _ _ (by omega), Nat.add_sub_cancel_left]
theorem LI.gG (q : LI w0 w gg cap G n m pre h vp vl M) : G ≠ gg := by
  obtain ⟨cs, hb⟩ := rowIs_blk q.r
  have := own_blk_ne q.o hb (by decide)
  intro e
  exact this (by rw [e]; rfl)
theorem LI.lg (q : LI w0 w gg cap G n m pre h vp vl M) {B k' : Nat} {v : Value} {xs : List Value} {N : Nat} (hv : w.ownsRow B 91 k' v N xs) : v.ownBlock ≠ some gg := rows_ne q.o hv (by decide) gg rfl
theorem LI.put (q : LI w0 w gg cap G n m pre h vp vl M) (j : Nat) (x : Value) {h' : Hk} {vl' : Value} (hx : (fiveV h vl).set j x = fiveV h' vl') (hl : w.ownsRow M 91 2 vl' h'.ls.length (h'.ls.flatMap cEd)) :
    LI w0 (w.setCell ⟨gg, pre.length * 5 + j, none⟩ x) gg cap G n m pre h' vp vl' M := by
  have st := (q.o.stored (pre.length * 5 + j) x).1
  rw [← q.vlen, set_five, hx, q.vlen] at st
  exact ⟨st, q.bm, by have := q.ms; simp; omega, q.u.keep fun v n xs hr _ => kept_at hr (q.lg hr) _ _, kept_at hl (q.lg hl) _ _, q.r.setOther (a := ⟨gg, pre.length * 5 + j, none⟩) q.gG x, q.b.setCell (p := ⟨gg, pre.length * 5 + j, none⟩) (q.o.lt gg rfl).1 x⟩
theorem LI.setDel (q : LI w0 w gg cap G n m pre h vp vl M) (d : Int) : LI w0 (w.setCell ⟨gg, pre.length * 5 + 1, none⟩ (.int .i64 d)) gg cap G n m pre ⟨h.at_, d, h.to_, h.add, h.ls⟩ vp vl M := q.put 1 _ rfl q.l
theorem LI.setAdd (q : LI w0 w gg cap G n m pre h vp vl M) (d : Int) : LI w0 (w.setCell ⟨gg, pre.length * 5 + 3, none⟩ (.int .i64 d)) gg cap G n m pre ⟨h.at_, h.del, h.to_, d, h.ls⟩ vp vl M := q.put 3 _ rfl q.l
theorem LI.grown {w5 : World} (q : LI w0 w gg cap G n m pre h vp vl M) (hg : w.grownBy w5 vl.ownBlock) {v5 : Value} {o : Int} {s : ByteArray} (ho : w5.ownsRow M 91 2 v5 (h.ls.length + 1) (h.ls.flatMap cEd ++ [.int .i64 o, .string s])) :
    w5.cell? ⟨gg, pre.length * 5 + 4, none⟩ = some vl ∧ w5.frozen? ⟨gg, pre.length * 5 + 4, none⟩ = false ∧ LI w0 (w5.setCell ⟨gg, pre.length * 5 + 4, none⟩ v5) gg cap G n m pre ⟨h.at_, h.del, h.to_, h.add, h.ls ++ [(o, s)]⟩ vp v5 M := by
  have hlk : ∀ z, vl.ownBlock = some z → w0.heap.size ≤ z := fun z hz => Nat.le_trans q.bm (q.l.lt z hz).1
  have o5 := kept_ne q.o q.l (by decide) hg
  have u5 : HkU w5 w0.heap.size M vp pre := q.u.keep fun v N xs hr hM => by
    refine hr.kept hg ?_
    cases hy : v.ownBlock with
    | none => exact .inl rfl
    | some g => exact .inr fun e => by have h1 := hM g hy; have h2 := (q.l.lt g e.symm).1; omega
  have r5 : w5.rowIs G 4 n (fun t => .bool (m t)) := by
    obtain ⟨cs, hb⟩ := rowIs_blk q.r
    exact q.r.of_block (hg.block G q.r.lt (fun e => own_blk_ne q.l hb (by decide) e.symm))
  have b5 : Below w0.heap.size w0 w5 := q.b.grown hg q.b.size hlk
  have c5 : w5.ownsRow M 91 2 v5 (h.ls ++ [(o, s)]).length ((h.ls ++ [(o, s)]).flatMap cEd) := by
    rw [List.length_append, flat_snocP]
    exact ho
  have ne5 : v5.ownBlock ≠ some gg := rows_ne o5 c5 (by decide) gg rfl
  have hv : vp.length = pre.length * 5 := q.vlen
  have gG : G ≠ gg := q.gG
  have st := (o5.stored (pre.length * 5 + 4) v5).1
  rw [← hv, set_five, hv] at st
  have ms5 : M ≤ w5.heap.size := Nat.le_trans q.ms hg.size
  refine ⟨?_, o5.frozenAt _, st, q.bm, by simp; exact ms5, u5.keep fun v N xs hr _ => kept_at hr (rows_ne o5 hr (by decide) gg rfl) _ _, kept_at c5 ne5 _ _, r5.setOther (a := ⟨gg, pre.length * 5 + 4, none⟩) gG v5, b5.setCell (p := ⟨gg, pre.length * 5 + 4, none⟩) (q.o.lt gg rfl).1 v5⟩
  rw [o5.cellAt (pre.length * 5 + 4) (by omega), ← hv, List.getElem?_append_right (by omega), Nat.add_sub_cancel_left]
  rfl
theorem LI.cellN {pn : Nat} (q : LI w0 w gg cap G n m pre h vp vl M) (hp : pn = pre.length) (j : Nat) (hj : j < 5) : w.cell? ⟨gg, pn * 5 + j, none⟩ = (fiveV h vl)[j]? := by subst hp; exact q.cell j hj
theorem LI.frozenN (q : LI w0 w gg cap G n m pre h vp vl M) (pn j : Nat) : w.frozen? ⟨gg, pn * 5 + j, none⟩ = false := q.o.frozenAt _
theorem LI.setDelN {pn : Nat} (q : LI w0 w gg cap G n m pre h vp vl M) (hp : pn = pre.length) (d : Int) : LI w0 (w.setCell ⟨gg, pn * 5 + 1, none⟩ (.int .i64 d)) gg cap G n m pre ⟨h.at_, d, h.to_, h.add, h.ls⟩ vp vl M := by subst hp; exact q.setDel d
theorem LI.setAddN {pn : Nat} (q : LI w0 w gg cap G n m pre h vp vl M) (hp : pn = pre.length) (d : Int) : LI w0 (w.setCell ⟨gg, pn * 5 + 3, none⟩ (.int .i64 d)) gg cap G n m pre ⟨h.at_, h.del, h.to_, d, h.ls⟩ vp vl M := by subst hp; exact q.setAdd d
theorem LI.grownN {pn NL : Nat} {w5 : World} (q : LI w0 w gg cap G n m pre h vp vl M) (hp : pn = pre.length) (hN : NL = h.ls.length) (hg : w.grownBy w5 vl.ownBlock) {v5 : Value} {o : Int} {s : ByteArray} (ho : w5.ownsRow M 91 2 v5 (NL + 1) (h.ls.flatMap cEd ++ [.int .i64 o, .string s])) :
    w5.cell? ⟨gg, pn * 5 + 4, none⟩ = some vl ∧ w5.frozen? ⟨gg, pn * 5 + 4, none⟩ = false ∧ LI w0 (w5.setCell ⟨gg, pn * 5 + 4, none⟩ v5) gg cap G n m pre ⟨h.at_, h.del, h.to_, h.add, h.ls ++ [(o, s)]⟩ vp v5 M := by subst hp; subst hN; exact q.grown hg ho
end
/-- The row of hunks. -/
def OutsI (w0 w : World) (s : Value) (G n : Nat) (m : Nat → Bool) (hs : List Hk) : Prop :=
  (hs = [] ∧ s = .slice none 0 0 ∧ w.rowIs G 4 n (fun t => .bool (m t)) ∧ Below w0.heap.size w0 w) ∨
  ∃ gg cap pre h vp vl M, s = .slice (some ⟨gg, 0, none⟩) (pre.length + 1) cap ∧ hs = pre ++ [h] ∧ LI w0 w gg cap G n m pre h vp vl M
theorem OutsI.parts {w0 w : World} {s : Value} {G n : Nat} {m : Nat → Bool} {hs : List Hk} (h : OutsI w0 w s G n m hs) :
    ∃ vals, w.ownsRow w0.heap.size 114 5 s hs.length vals ∧ HkV 91 w w0.heap.size vals hs ∧ w.rowIs G 4 n (fun t => .bool (m t)) ∧ Below w0.heap.size w0 w := by
  rcases h with ⟨rfl, rfl, h1, h2⟩ | ⟨gg, cap, pre, h, vp, vl, M, rfl, rfl, q⟩
  · exact ⟨[], World.ownsRow_nil _ _ _ _, rfl, h1, h2⟩
  · refine ⟨vp ++ fiveV h vl, ?_, HkV.snoc (own2_le q.l q.bm) q.u.toV, q.r, q.b⟩
    rw [List.length_append]
    exact q.o
theorem LI.fresh {w0 w5 : World} {gg cap G n : Nat} {m : Nat → Bool} {hs : List Hk} {vals : List Value} {i j : Int} (ho : w5.ownsRow w0.heap.size 114 5 (.slice (some ⟨gg, 0, none⟩) (hs.length + 1) cap) (hs.length + 1) (vals ++ [.int .i64 i, .int .i64 0, .int .i64 j, .int .i64 0, .slice none 0 0]))
    (hv : HkV 91 w5 w0.heap.size vals hs) (hr : w5.rowIs G 4 n (fun t => .bool (m t))) (hb : Below w0.heap.size w0 w5) : LI w0 w5 gg cap G n m hs ⟨i, 0, j, 0, []⟩ vals (.slice none 0 0) w5.heap.size :=
  ⟨ho, hb.size, Nat.le_refl _, hv.toU (Nat.le_refl _), World.ownsRow_nil _ _ _ _, hr, hb⟩
end Go.Proofs.YtdpoeagmeiedcaaDoor
