/-
  The walk of GraphChains.
-/
import Derived.Test.YtgcgfflkhlehoaaGChain
import Derived.Outline
namespace Go.Proofs.Ytgcgfflkhlehoaa
open Go.RowKit

theorem rowInfo : (Try.prog.info? 30).map (fun i => (i.zero, i.size, i.bytes)) = some (some (.slice none 0 0), 1, 24) := by kernel_rfl

/-- A row of rows, all the call's own. -/
structure Ch (w0 w : World) (v : Value) (gs : List (List Int)) : Prop where
  own : ∃ vals, w.ownsRow w0.heap.size 30 1 v gs.length vals ∧ ∀ (i : Nat) (l : List Int), gs[i]? = some l → ∃ u, vals[i]? = some u ∧ w.ownsRow w0.heap.size 3 1 u l.length (ivs l)
  b : Below w0.heap.size w0 w

theorem Ch.nil {w0 w : World} (hb : Below w0.heap.size w0 w) : Ch w0 w (.slice none 0 0) [] := ⟨⟨[], World.ownsRow_nil _ _ _ _, fun i l h => by simp at h⟩, hb⟩
theorem Ch.rows {w0 w : World} {v : Value} {gs : List (List Int)} (h : Ch w0 w v gs) : Rows w v gs := by
  obtain ⟨⟨vals, h1, h2⟩, _⟩ := h
  rcases h1.2 with ⟨rfl, h0⟩ | ⟨g, cap, cur, hv, hb, hg, hnc, hm, hcs, ht⟩
  · have : gs = [] := List.eq_nil_of_length_eq_zero h0
    subst this
    exact Rows.nil w
  · refine ⟨some ⟨g, 0, none⟩, cap, hv, hnc, hm, (fun h => by cases h), fun ad ha i l hl => ?_⟩
    obtain rfl := Option.some.inj ha
    obtain ⟨u, hu, ho⟩ := h2 i l hl
    exact ⟨u, h1.cells (g := g) (by rw [hv]; rfl) i u hu, Ints.of_own ho rfl⟩
theorem Ch.below {w0 w w' : World} {v : Value} {gs : List (List Int)} (h : Ch w0 w v gs) (hb : Below w.heap.size w w') : Ch w0 w' v gs := by
  obtain ⟨⟨vals, h1, h2⟩, h3⟩ := h
  exact ⟨⟨vals, own_keep h1 hb, fun i l hl => by obtain ⟨u, hu, ho⟩ := h2 i l hl; exact ⟨u, hu, own_keep ho hb⟩⟩, h3.trans (hb.mono h3.size)⟩
/-- Behind the append of one row. -/
theorem Ch.push {w0 w w1 w2 : World} {v v' u : Value} {gs : List (List Int)} {l : List Int} {vals : List Value} {n : Nat} (hn : gs.length = n) (hB : Below w.heap.size w w1) (h3 : Below w0.heap.size w0 w)
    (h1 : w1.ownsRow w0.heap.size 30 1 v n vals) (h2 : ∀ (i : Nat) (l : List Int), gs[i]? = some l → ∃ u, vals[i]? = some u ∧ w.ownsRow w0.heap.size 3 1 u l.length (ivs l)) (hu : w1.ownsRow w0.heap.size 3 1 u l.length (ivs l))
    (ho : w2.ownsRow w0.heap.size 30 1 v' (n + 1) (vals ++ [u])) (hg : w1.grownBy w2 v.ownBlock) : Ch w0 w2 v' (gs ++ [l]) := by
  subst hn
  refine ⟨⟨vals ++ [u], by rw [List.length_append]; exact ho, fun i k hk => ?_⟩, (h3.trans (hB.mono h3.size)).grown hg (by have := h3.size; have := hB.size; omega) (fun k hk => (h1.lt k hk).1)⟩
  have hvl := h1.1
  rw [Nat.mul_one] at hvl
  by_cases hi : i < gs.length
  · rw [List.getElem?_append_left hi] at hk
    obtain ⟨x, hx, hox⟩ := h2 i k hk
    refine ⟨x, by rw [List.getElem?_append_left (by omega)]; exact hx, ?_⟩
    have := own_keep hox hB
    exact this.kept hg (own_own_ne this h1 (by decide))
  · rw [List.getElem?_append_right (by omega)] at hk
    have : i - gs.length = 0 := by
      have := (List.getElem?_eq_some_iff.1 hk).1
      simpa using this
    rw [this] at hk
    simp at hk
    subst hk
    refine ⟨u, by rw [List.getElem?_append_right (by omega)]; rw [hvl, this]; rfl, hu.kept hg (own_own_ne hu h1 (by decide))⟩

/-- One number, in a row of the call's own. -/
theorem one_own (w : World) (base : Nat) (z : Int) (hb : base ≤ w.heap.size) : (w.alloc (.cells #[.int .i64 z] 3)).ownsRow base 3 1 (.slice (some ⟨w.heap.size, 0, none⟩) 1 1) [z].length (ivs [z]) :=
  World.ownsRow_lit (base := base) (e := 3) (size := 1) w #[.int .i64 z] 1 hb (by simp [maxLen]) rfl

set_option maxRecDepth 100000 in
set_option maxHeartbeats 4000000 in
theorem chains_walk (a0 a1 a2 : Int) (p0 : 0 ≤ a0) (q0 : a0 ≤ 255) (p1 : 0 ≤ a1) (q1 : a1 ≤ 255) (p2 : 0 ≤ a2) (q2 : a2 ≤ 255) (w : World) : Calls Try.prog 5 #[.int .u8 a0, .int .u8 a1, .int .u8 a2] w (YesB w) := by
  obtain ⟨i0, hi, hz0, hz1, hz2⟩ := info_parts rowInfo
  go_enter Try.func5, Try.ntmps5
  go_wp2_with fail
  refine (known_yes w).mono ?_
  rintro e w1 ⟨rfl, hb1⟩
  go_wp2_with fail
  obtain ⟨n, hn, hn1, hn2⟩ : ∃ k : Nat, 1 + a0 % 20 = (k : Int) ∧ 1 ≤ k ∧ k ≤ 20 := ⟨(1 + a0 % 20).toNat, by omega, by omega, by omega⟩
  obtain ⟨x, hx, hx1, hx2⟩ : ∃ k : Nat, 1 + a1 % 20 = (k : Int) ∧ 1 ≤ k ∧ k ≤ 20 := ⟨(1 + a1 % 20).toNat, by omega, by omega, by omega⟩
  obtain ⟨y, hy, hy1, hy2⟩ : ∃ k : Nat, 1 + a2 % 20 = (k : Int) ∧ 1 ≤ k ∧ k ≤ 20 := ⟨(1 + a2 % 20).toNat, by omega, by omega, by omega⟩
  rw [hn, hx, hy]
  clear hn hx hy
  go_loopw [10, 11] (fun s10 s11 wr => ∃ k : Nat, k ≤ n + x + y ∧ s11 = .int .i64 ((k : Int) + 1) ∧ Ch w wr s10 (chain n x k)) (fun _ s11 _ => n + x + y + 1 - (intOf s11).toNat)
  case atStart => exact ⟨0, Nat.zero_le _, rfl, Ch.nil hb1⟩
  case round =>
    obtain ⟨k, hk, rfl, H⟩ := hrel
    have k0 : (0 : Int) ≤ (k : Int) := Int.natCast_nonneg _
    by_cases hlt : k < n + x + y
    · have k1 : (k : Int) + 1 ≤ (n : Int) + (x : Int) + (y : Int) := by omega
      have HS := Lib.hid (chain_succ n x k)
      have hcl := chain_len n x k
      have HCL := Lib.hid hcl
      obtain ⟨⟨vals, h1, h2⟩, h3⟩ := H
      rw [chain_len] at h1
      have H2 := Lib.hid h2
      have H3 := Lib.hid h3
      have hsz := h3.size
      clear h2 h3 hcl
      by_cases e1 : k = 0
      · subst e1
        have HR : Hid (rowC n x (0 + 1) = []) := Lib.hid rfl
        have hB := (Below.refl wr.heap.size wr).alloc (Nat.le_refl _) (.cells #[.slice none 0 0] 30)
        have hnews := World.news_of_block (cs := #[.slice none 0 0]) (t := 30) (fr := (0, 0)) (heap_alloc_new wr (.cells #[.slice none 0 0] 30))
        have hown := h1.alloc (.cells #[.slice none 0 0] 30)
        have hbase : w.heap.size ≤ (wr.alloc (.cells #[.slice none 0 0] 30)).heap.size := by simp; omega
        have HBB := Lib.hid hB
        have HOO := Lib.hid hown
        clear h1 hB hown
        go_wp2_with (at_builtin; refine wpList_append_own _ rfl _ _ 23 rfl w.heap.size 30 i0 (.slice none 0 0) 1 24 Try.underlying23 hi hz0 hz1 hz2 rfl (by decide) _ _ _ rfl HOO.out ⟨wr.heap.size, 0, none⟩ 1 1 [.slice none 0 0] rfl rfl hnews (by simp [Value.oneCell']) (by unfold maxLen; omega) (by omega) hbase ?_; intro v5 w5 hown5 hg5 _; have H5 := Lib.hid (Ch.push (l := []) HCL.out HBB.out H3.out HOO.out H2.out (World.ownsRow_nil _ _ _ _) hown5 hg5))
        go_roundw
        case rel => exact ⟨0 + 1, by omega, by go_num, by rw [HS.out, HR.out]; exact H5.out⟩
        case measure => simp [intOf]; omega
      · have e1' : (((k : Int) + 1 == 1)) = false := by rw [beq_eq_false_iff_ne]; omega
        by_cases e2 : k = n + x
        · have e2' : (((k : Int) + 1 == (n : Int) + (x : Int) + 1)) = true := by rw [beq_iff_eq]; omega
          have HR : Hid (rowC n x (k + 1) = [(n : Int)]) := Lib.hid (by unfold rowC; rw [if_neg (by omega), if_pos (by omega)])
          have z1 : (wr.alloc (.cells #[.int .i64 (n : Int)] 3)).heap.size = wr.heap.size + 1 := by simp
          have hB := ((Below.refl wr.heap.size wr).alloc (Nat.le_refl _) (.cells #[.int .i64 (n : Int)] 3)).alloc (by simp) (.cells #[.slice (some ⟨wr.heap.size, 0, none⟩) 1 1] 30)
          have hu := (one_own wr w.heap.size (n : Int) hsz).alloc (.cells #[.slice (some ⟨wr.heap.size, 0, none⟩) 1 1] 30)
          have hnews := World.news_of_block (cs := #[.slice (some ⟨wr.heap.size, 0, none⟩) 1 1]) (t := 30) (fr := (0, 0)) (heap_alloc_new (wr.alloc (.cells #[.int .i64 (n : Int)] 3)) (.cells #[.slice (some ⟨wr.heap.size, 0, none⟩) 1 1] 30))
          rw [z1] at hnews
          have hown := (h1.alloc (.cells #[.int .i64 (n : Int)] 3)).alloc (.cells #[.slice (some ⟨wr.heap.size, 0, none⟩) 1 1] 30)
          have hbase : w.heap.size ≤ ((wr.alloc (.cells #[.int .i64 (n : Int)] 3)).alloc (.cells #[.slice (some ⟨wr.heap.size, 0, none⟩) 1 1] 30)).heap.size := by simp; omega
          have HBB := Lib.hid hB
          have HUU := Lib.hid hu
          have HOO := Lib.hid hown
          clear e1 e2 h1 z1 hB hu hown
          go_wp2_with (at_builtin; refine wpList_append_own _ rfl _ _ 23 rfl w.heap.size 30 i0 (.slice none 0 0) 1 24 Try.underlying23 hi hz0 hz1 hz2 rfl (by decide) _ _ _ rfl HOO.out ⟨wr.heap.size + 1, 0, none⟩ 1 1 [.slice (some ⟨wr.heap.size, 0, none⟩) 1 1] rfl rfl hnews (by simp [Value.oneCell']) (by unfold maxLen; omega) (by omega) hbase ?_; intro v5 w5 hown5 hg5 _; have H5 := Lib.hid (Ch.push HCL.out HBB.out H3.out HOO.out H2.out HUU.out hown5 hg5))
          go_roundw
          case rel => exact ⟨k + 1, by omega, by go_num, by rw [HS.out, HR.out]; exact H5.out⟩
          case measure => simp [intOf]; omega
        · have e2' : (((k : Int) + 1 == (n : Int) + (x : Int) + 1)) = false := by rw [beq_eq_false_iff_ne]; omega
          have HR : Hid (rowC n x (k + 1) = [(k : Int)]) := Lib.hid (by unfold rowC; rw [if_neg (by omega), if_neg (by omega)]; congr 1; omega)
          have z1 : (wr.alloc (.cells #[.int .i64 (k : Int)] 3)).heap.size = wr.heap.size + 1 := by simp
          have hB := ((Below.refl wr.heap.size wr).alloc (Nat.le_refl _) (.cells #[.int .i64 (k : Int)] 3)).alloc (by simp) (.cells #[.slice (some ⟨wr.heap.size, 0, none⟩) 1 1] 30)
          have hu := (one_own wr w.heap.size (k : Int) hsz).alloc (.cells #[.slice (some ⟨wr.heap.size, 0, none⟩) 1 1] 30)
          have hnews := World.news_of_block (cs := #[.slice (some ⟨wr.heap.size, 0, none⟩) 1 1]) (t := 30) (fr := (0, 0)) (heap_alloc_new (wr.alloc (.cells #[.int .i64 (k : Int)] 3)) (.cells #[.slice (some ⟨wr.heap.size, 0, none⟩) 1 1] 30))
          rw [z1] at hnews
          have hown := (h1.alloc (.cells #[.int .i64 (k : Int)] 3)).alloc (.cells #[.slice (some ⟨wr.heap.size, 0, none⟩) 1 1] 30)
          have hbase : w.heap.size ≤ ((wr.alloc (.cells #[.int .i64 (k : Int)] 3)).alloc (.cells #[.slice (some ⟨wr.heap.size, 0, none⟩) 1 1] 30)).heap.size := by simp; omega
          have HBB := Lib.hid hB
          have HUU := Lib.hid hu
          have HOO := Lib.hid hown
          clear e1 e2 h1 z1 hB hu hown
          go_wp2_with (at_builtin; refine wpList_append_own _ rfl _ _ 23 rfl w.heap.size 30 i0 (.slice none 0 0) 1 24 Try.underlying23 hi hz0 hz1 hz2 rfl (by decide) _ _ _ rfl HOO.out ⟨wr.heap.size + 1, 0, none⟩ 1 1 [.slice (some ⟨wr.heap.size, 0, none⟩) 1 1] rfl rfl hnews (by simp [Value.oneCell']) (by unfold maxLen; omega) (by omega) hbase ?_; intro v5 w5 hown5 hg5 _; have H5 := Lib.hid (Ch.push HCL.out HBB.out H3.out HOO.out H2.out HUU.out hown5 hg5))
          go_roundw
          case rel => exact ⟨k + 1, by omega, by go_num, by rw [HS.out, HR.out]; exact H5.out⟩
          case measure => simp [intOf]; omega
    · obtain rfl : k = n + x + y := by omega
      have k1 : ¬ (((n + x + y : Nat) : Int) + 1 ≤ (n : Int) + (x : Int) + (y : Int)) := by omega
      have hG := H.rows
      have hb := H.b
      have V1 := Lib.hid (chain_chk (x := x) hn1 (k := n + x + y) (by omega))
      have W2 := base_chain hn1 hx1 hy1
      have W3 := len1 hn1 hx1 hy1
      have W4 := len2 hn1 hx1 hy1
      have W5 := len3 hn1 hx1 hy1
      have W6 := len4 hn1 hx1 hy1
      have W7 := len5 hn1 hx1 hy1
      have htwo := Lib.hid (chain_two (n := n) (x := x) (n + x + y))
      have hlen : (chain n x (n + x + y)).length ≤ 2000 := by rw [chain_len]; omega
      rw [show ((n + x + y : Nat) : Int) = (n : Int) + (x : Int) + (y : Int) from by omega] at W2 W4 W5 W6
      rw [show ((n + x : Nat) : Int) = (n : Int) + (x : Int) from by omega] at W2 W3 W5 W7
      have V2 := Lib.hid W2
      have V3 := Lib.hid W3
      have V4 := Lib.hid W4
      have V5 := Lib.hid W5
      have V6 := Lib.hid W6
      have V7 := Lib.hid W7
      clear W2 W3 W4 W5 W6 W7 H
      have HG := Lib.hid hG
      have HL := Lib.hid hlen
      clear hG hlen
      generalize chain n x (n + x + y) = gs at *
      obtain ⟨wz, hwz⟩ : ∃ wz : World, wz = wr := ⟨_, rfl⟩
      rw [← hwz] at HG hb ⊢
      clear hwz
      have c0 := Below.refl wz.heap.size wz
      have A1 := Lib.hid (check_any wz u10 gs HG.out)
      rw [V1.out] at A1
      go_wp2_with fail
      refine A1.out.mono ?_
      rintro e w3 ⟨rfl, c3⟩
      clear A1 c0
      have A2 := Lib.hid (base_any w3 u10 gs ((n : Int) + (x : Int)) ((n : Int) + (x : Int) + (y : Int)) (HG.out.below c3) HL.out htwo.out)
      rw [V2.out] at A2
      go_wp2_with fail
      refine A2.out.mono ?_
      rintro e w4 ⟨rfl, d4⟩
      have c4 := c3.trans (d4.mono c3.size)
      clear A2 c3 d4
      have c5 := c4.alloc c4.size (.cells #[.int .i64 ((n : Int) + (x : Int))] 3)
      have A3 := Lib.hid (ancestors_any _ u10 _ gs [(n : Int) + (x : Int)] (HG.out.below c5) (Ints.lit w4 #[.int .i64 ((n : Int) + (x : Int))] 3 [(n : Int) + (x : Int)] rfl (by simp [maxLen])) HL.out)
      clear c4
      go_wp2_with fail
      refine A3.out.mono ?_
      rintro e w5 ⟨x5, rfl, o5, d5⟩
      obtain ⟨X5, y5, h5⟩ := own_form o5
      rw [V3.out] at h5
      subst h5
      have c6 := c5.trans (d5.mono c5.size)
      clear A3 c5 d5 o5
      have c7 := c6.alloc c6.size (.cells #[.int .i64 ((n : Int) + (x : Int) + (y : Int))] 3)
      have A4 := Lib.hid (ancestors_any _ u10 _ gs [(n : Int) + (x : Int) + (y : Int)] (HG.out.below c7) (Ints.lit w5 #[.int .i64 ((n : Int) + (x : Int) + (y : Int))] 3 [(n : Int) + (x : Int) + (y : Int)] rfl (by simp [maxLen])) HL.out)
      clear c6
      have f1 : ((n : Int) + (x : Int) == ((n + x : Nat) : Int)) = true := by rw [beq_iff_eq]; omega
      go_wp2_with fail
      refine A4.out.mono ?_
      rintro e w6 ⟨x6, rfl, o6, d6⟩
      obtain ⟨X6, y6, h6⟩ := own_form o6
      rw [V4.out] at h6
      subst h6
      have c8 := c7.trans (d6.mono c7.size)
      clear A4 c7 d6 o6
      have A5 := Lib.hid (only_any w6 u10 gs ((n : Int) + (x : Int)) ((n : Int) + (x : Int) + (y : Int)) (HG.out.below c8) HL.out)
      go_wp2_with fail
      refine A5.out.mono ?_
      rintro e w7 ⟨x7, rfl, o7, d7⟩
      obtain ⟨X7, y7, h7⟩ := own_form o7
      rw [V5.out] at h7
      subst h7
      have c9 := c8.trans (d7.mono c8.size)
      clear A5 c8 d7 o7
      have A6 := Lib.hid (only_any w7 u10 gs ((n : Int) + (x : Int) + (y : Int)) (n : Int) (HG.out.below c9) HL.out)
      go_wp2_with fail
      refine A6.out.mono ?_
      rintro e w8 ⟨x8, rfl, o8, d8⟩
      obtain ⟨X8, y8, h8⟩ := own_form o8
      rw [V6.out] at h8
      subst h8
      have c10 := c9.trans (d8.mono c9.size)
      clear A6 c9 d8 o8
      have A7 := Lib.hid (bases_any w8 u10 gs ((n : Int) + (x : Int)) (n : Int) (HG.out.below c10) HL.out htwo.out)
      go_wp2_with fail
      refine A7.out.mono ?_
      rintro e w9 ⟨x9, rfl, o9, d9⟩
      obtain ⟨X9, y9, h9⟩ := own_form o9
      rw [V7.out] at h9
      subst h9
      have c11 := Lib.hid (hb.trans ((c10.trans (d9.mono c10.size)).mono hb.size))
      clear A7 c10 d9 o9
      go_wp2_with fail
      go_ret
      exact ⟨rfl, c11.out⟩

end Go.Proofs.Ytgcgfflkhlehoaa
