/-
  The walk of DiffAny.
-/
import Derived.Test.YtdpoeagmeiedcaaDoorRMat
import Derived.Test.YtdpoeagmeiedcaaDoorRCmE
import Derived.Test.YtdpoeagmeiedcaaDoorFewLines
namespace Go.Proofs.YtdpoeagmeiedcaaDoor
open Go Go.RowKit

theorem over_same {n m k k' : Nat} (h : Over n m k) (h' : Over n m k') : k = k' := by unfold Over at h h'; omega
theorem over_or (n m : Nat) : (n ≤ 256 ∧ m ≤ 256) ∨ ∃ k, Over n m k := by
  by_cases h1 : 256 < n
  · exact .inr ⟨0, .inl ⟨rfl, h1⟩⟩
  · by_cases h2 : 256 < m
    · exact .inr ⟨1, .inr ⟨rfl, by omega, h2⟩⟩
    · exact .inl ⟨by omega, by omega⟩
theorem over_01 {n m k : Nat} (h : Over n m k) : k = 0 ∨ k = 1 := by unfold Over at h; omega
theorem own_formk {w : World} {base k n : Nat} {e : TypeId} {v : Value} {xs : List Value} (h : w.ownsRow base e k v n xs) : ∃ A c, v = .slice A n c := by
  rcases h.2 with ⟨rfl, h0⟩ | ⟨g, cap, cur, rfl, _⟩
  · exact ⟨_, _, by rw [h0]⟩
  · exact ⟨_, _, rfl⟩
theorem mcells_at {l : List Mt} : ∀ {i : Nat} {x : Mt}, l[i]? = some x → (mcells l)[i * 3]? = some (.int .i64 (x.1 : Int)) ∧ (mcells l)[i * 3 + 1]? = some (.int .i64 (x.2.1 : Int)) ∧ (mcells l)[i * 3 + 2]? = some (.int .i64 (x.2.2 : Int)) := by
  induction l with
  | nil => intro i x h; simp at h
  | cons y l ih =>
    intro i x h
    have hc : mcells (y :: l) = .int .i64 (y.1 : Int) :: .int .i64 (y.2.1 : Int) :: .int .i64 (y.2.2 : Int) :: mcells l := rfl
    rw [hc]
    cases i with
    | zero => simp at h; subst h; exact ⟨rfl, rfl, rfl⟩
    | succ i =>
      rw [show (i + 1) * 3 = i * 3 + 1 + 1 + 1 by omega]
      simp only [List.getElem?_cons_succ] at h ⊢
      exact ih h
theorem own3_at {w : World} {base g cap : Nat} {e : TypeId} {n : Nat} {xs : List Value} (h : w.ownsRow base e 3 (.slice (some ⟨g, 0, none⟩) n cap) n xs) {i : Nat} {x : Value} (hi : xs[i]? = some x) : w.cell? ⟨g, i, none⟩ = some x := by
  rw [h.cellAt i (by rw [← h.1]; exact (List.getElem?_eq_some_iff.1 hi).1)]
  exact hi
theorem mrun_len (l : List (Nat × ByteArray)) : (mrun l).1.length ≤ l.length := by
  have := (MGood.run l l.length (Nat.le_refl _)).l
  rw [List.take_length] at this
  exact this

set_option maxRecDepth 100000 in
set_option maxHeartbeats 4000000 in
theorem diffAny_walk (w : World) (v u : Value) (xs ys : List ByteArray) (h : Strs w v xs) (g : Strs w u ys) (hE : ErrType w) :
    Calls Tryd.prog 3 #[v, u] w (YesB w) := by
  obtain ⟨A, n, c, rfl⟩ := h.form
  obtain ⟨B, m, d, rfl⟩ := g.form
  have hlm := h.len.2
  have glm := g.len.2
  obtain rfl := h.len.1
  obtain rfl := g.len.1
  have KN := Lib.hid (diffKnown_yes w)
  have H0 := Lib.hid h
  have G0 := Lib.hid g
  have E0 := Lib.hid hE
  clear h g hE
  go_enter Tryd.func3, Tryd.ntmps3
  go_wp2_with fail
  refine KN.out.mono ?_
  rintro e w1 ⟨rfl, b1⟩
  have B1 := Lib.hid b1
  have H1 := Lib.hid (H0.out.below b1)
  have G1 := Lib.hid (G0.out.below b1)
  have FW := Lib.hid (few_any w1 _ _ xs ys H1.out G1.out)
  clear b1 KN
  go_wp2_with fail
  refine FW.out.mono ?_
  rintro e w1' ⟨b, rfl, hb, rfl⟩
  clear FW
  cases b with
  | false =>
    go_wp2
    go_ret
    exact ⟨rfl, B1.out⟩
  | true =>
    have hfew := hb rfl
    have hxs : ∀ s ∈ xs, s.size ≤ maxLen := fun s hs => by have := hfew.s s hs; unfold maxLen; omega
    have hys : ∀ s ∈ ys, s.size ≤ maxLen := fun s hs => by have := hfew.t s hs; unfold maxLen; omega
    have hxl3 := hfew.a
    have hyl3 := hfew.b
    clear hb hfew
    rcases over_or xs.length ys.length with ⟨hxl, hyl⟩ | ⟨k, hk⟩
    · have CL := Lib.hid (lines_good w1 _ _ xs ys H1.out G1.out hxs hys hxl hyl)
      have HXS := Lib.hid hxs
      have HYS := Lib.hid hys
      have hel := ed_len xs ys
      have hops := Lib.hid (ed_ops xs ys)
      have hco := Lib.hid (ed_all xs ys).2.2
      have hll := lc_le_left xs ys
      have hmn := mrun_len (ed xs ys)
      have RF := Lib.hid fun W hh gg => refLines_any W (.slice A xs.length c) (.slice B ys.length d) xs ys hh gg
      clear hxs hys
      go_wp2_with fail
      refine CL.out.mono ?_
      rintro e w2 ⟨v5, rfl, o5, b2⟩
      have B2 := Lib.hid (B1.out.trans (b2.mono B1.out.size))
      have O5 := Lib.hid o5
      obtain ⟨A5, c5, rfl⟩ := own_formk o5
      clear o5 b2 CL
      go_wp2_with fail
      refine (RF.out w2 (H0.out.below B2.out) (G0.out.below B2.out)).mono ?_
      rintro e w3 (⟨_, _, v7, rfl, o7, b3⟩ | ⟨k, g, hk, _⟩)
      case inr => unfold Over at hk; omega
      have B3 := Lib.hid (B2.out.trans (b3.mono B2.out.size))
      have O5a := Lib.hid (own2_keep O5.out b3)
      obtain ⟨A7, c7, rfl⟩ := own_formk o7
      have b4 := (Below.refl w3.heap.size w3).alloc (Nat.le_refl _) (.cells #[.slice none 0 0, .int .i64 0] 33)
      have B4 := Lib.hid (B3.out.trans (b4.mono B3.out.size))
      have O5b := Lib.hid (own2_keep O5a.out b4)
      have O7 := Lib.hid (own2_keep o7 b4)
      have KE := Lib.hid (Blk.new w3 33 #[.slice none 0 0, .int .i64 0])
      clear o7 b3 b4 O5 O5a RF
      go_wp2_with fail
      generalize hW4 : w3.alloc (.cells #[.slice none 0 0, .int .i64 0] 33) = W4 at *
      clear hW4
      generalize w3.heap.size = E at *
      have CM := Lib.hid (matches_good W4 _ _ xs ys (H0.out.below B4.out) (G0.out.below B4.out) HXS.out HYS.out hxl hyl)
      refine CM.out.mono ?_
      rintro e w5 ⟨v9, rfl, o9, b5⟩
      have B5 := Lib.hid (B4.out.trans (b5.mono B4.out.size))
      have O5c := Lib.hid (own2_keep O5b.out b5)
      have O7c := Lib.hid (own2_keep O7.out b5)
      have KE5 := Lib.hid (KE.out.below b5 KE.out.lt)
      obtain ⟨A9, c9, rfl⟩ := own_formk o9
      have O9 := Lib.hid o9
      clear o9 b5 O5b O7 KE CM B4
      have CC := Lib.hid (common_good w5 _ _ xs ys (H0.out.below B5.out) (G0.out.below B5.out) HXS.out HYS.out hxl hyl)
      go_wp2_with fail
      refine CC.out.mono ?_
      rintro e w6 ⟨rfl, b6⟩
      have B6 := Lib.hid (B5.out.trans (b6.mono B5.out.size))
      have O5d := Lib.hid (own2_keep O5c.out b6)
      have O7d := Lib.hid (own2_keep O7c.out b6)
      have O9d := Lib.hid (own2_keep O9.out b6)
      have KE6 := Lib.hid (KE5.out.below b6 KE5.out.lt)
      clear b6 O5c O7c O9 KE5 CC B5
      have c0 := KE6.out.cell 0
      have c1 := KE6.out.cell 1
      go_wp2_with fail
      refine (tells_none w6).mono ?_
      rintro e w7 ⟨rfl, b7⟩
      have B7 := Lib.hid (B6.out.trans (b7.mono B6.out.size))
      have KE7 := Lib.hid (KE6.out.below b7 KE6.out.lt)
      have O5e := Lib.hid (own2_keep O5d.out b7)
      have O7e := Lib.hid (own2_keep O7d.out b7)
      have O9e := Lib.hid (own2_keep O9d.out b7)
      clear b7 c0 c1 KE6 B6 O5d O7d O9d
      have c0 := KE7.out.cell 0
      have c1 := KE7.out.cell 1
      go_wp2_with fail
      refine (tells_none w7).mono ?_
      rintro e w8 ⟨rfl, b8⟩
      have B8 := Lib.hid (B7.out.trans (b8.mono B7.out.size))
      have KE8 := Lib.hid (KE7.out.below b8 KE7.out.lt)
      have O5f := Lib.hid (own2_keep O5e.out b8)
      have O7f := Lib.hid (own2_keep O7e.out b8)
      have O9f := Lib.hid (own2_keep O9e.out b8)
      clear b8 c0 c1 KE7 B7 O5e O7e O9e
      have c0 := KE8.out.cell 0
      have c1 := KE8.out.cell 1
      go_wp2_with fail
      refine (tells_none w8).mono ?_
      rintro e w9 ⟨rfl, b9⟩
      have B9 := Lib.hid (B8.out.trans (b9.mono B8.out.size))
      have KE9 := Lib.hid (KE8.out.below b9 KE8.out.lt)
      have O5g := Lib.hid (own2_keep O5f.out b9)
      have O7g := Lib.hid (own2_keep O7f.out b9)
      have O9g := Lib.hid (own2_keep O9f.out b9)
      clear b9 c0 c1 KE8 B8 O5f O7f O9f
      go_wp2_with fail
      refine (edits_same w9 _ _ _ _ (ed xs ys) O5g.out O7g.out (by omega)).mono ?_
      rintro e w10 ⟨rfl, b10⟩
      have B10 := Lib.hid (B9.out.trans (b10.mono B9.out.size))
      have KE10 := Lib.hid (KE9.out.below b10 KE9.out.lt)
      have O5h := Lib.hid (own2_keep O5g.out b10)
      have O7h := Lib.hid (own2_keep O7g.out b10)
      have O9h := Lib.hid (own2_keep O9g.out b10)
      clear b10 KE9 B9 O5g O7g O9g
      have c1 := KE10.out.cell 1
      go_wp2_with fail
      refine (refMatches_any w10 _ _ (ed xs ys) O7h.out hops.out (by omega)).mono ?_
      rintro e w11 ⟨v13, rfl, o13, b11⟩
      have B11 := Lib.hid (B10.out.trans (b11.mono B10.out.size))
      have O5i := Lib.hid (own2_keep O5h.out b11)
      have O9i := Lib.hid (own2_keep O9h.out b11)
      obtain ⟨A13, c13, rfl⟩ := own_formk o13
      have O13 := Lib.hid o13
      clear b11 KE10 B10 O5h O7h O9h c1 o13
      go_wp2_with fail
      refine (refCommon_any w11 _ _ xs ys (H0.out.below B11.out) (G0.out.below B11.out) hxl hyl).mono ?_
      rintro e w12 ⟨rfl, b12⟩
      have B12 := Lib.hid (B11.out.trans (b12.mono B11.out.size))
      have O5j := Lib.hid (own2_keep O5i.out b12)
      have O9j := Lib.hid (own2_keep O9i.out b12)
      have O13j := Lib.hid (own2_keep O13.out b12)
      clear b12 B11 O5i O9i O13
      go_wp2_with fail
      refine (cost_any w12 _ _ (ed xs ys) O5j.out (by omega)).mono ?_
      rintro e w13 ⟨rfl, b13⟩
      have B13 := Lib.hid (B12.out.trans (b13.mono B12.out.size))
      have O9k := Lib.hid (own2_keep O9j.out b13)
      have O13k := Lib.hid (own2_keep O13j.out b13)
      clear b13 B12 O5j O9j O13j
      have hcc := hco.out
      generalize (mrun (ed xs ys)).1 = L at *
      generalize edCost (ed xs ys) = q at *
      generalize lc xs ys = r at *
      have q1 : IntKind.i64.wrap ((xs.length : Int) + (ys.length : Int)) = (xs.length : Int) + (ys.length : Int) := IntWalk.i64_in _ (by omega)
      have q2 : IntKind.i64.wrap (2 * (r : Int)) = 2 * (r : Int) := IntWalk.i64_in _ (by omega)
      have q3 : IntKind.i64.wrap ((xs.length : Int) + (ys.length : Int) - 2 * (r : Int)) = (q : Int) := by rw [show (xs.length : Int) + (ys.length : Int) - 2 * (r : Int) = (q : Int) by omega]; exact IntWalk.i64_in _ (by omega)
      have HL : L.length ≤ 512 := by omega
      clear hcc
      go_wp2_with fail
      go_loopw [14] (fun s14 wr => ∃ k q : Nat, k ≤ L.length ∧ s14 = .int .i64 k ∧ wr = w13.drewN q) (fun s14 _ => L.length - (intOf s14).toNat)
      case atStart => exact ⟨0, 0, Nat.zero_le _, rfl, rfl⟩
      case round =>
        obtain ⟨k, q', hk, rfl, rfl⟩ := hrel
        have k0 : (0 : Int) ≤ (k : Int) := Int.natCast_nonneg _
        clear q1 q2 q3
        by_cases hlt : k < L.length
        · obtain ⟨x, hs⟩ : ∃ x, L[k]? = some x := ⟨_, List.getElem?_eq_getElem hlt⟩
          obtain ⟨g1, rfl⟩ : ∃ g, A9 = some ⟨g, 0, none⟩ := by
            rcases O9k.out.2 with ⟨_, e2⟩ | ⟨g, cap, cur, e, _⟩
            · omega
            · cases e; exact ⟨_, rfl⟩
          obtain ⟨g2, rfl⟩ : ∃ g, A13 = some ⟨g, 0, none⟩ := by
            rcases O13k.out.2 with ⟨_, e2⟩ | ⟨g, cap, cur, e, _⟩
            · omega
            · cases e; exact ⟨_, rfl⟩
          have k1 : (k : Int) < (L.length : Int) := by omega
          obtain ⟨x1, x2, x3⟩ := mcells_at hs
          have d1 := own3_at O9k.out x1
          have d2 := own3_at O9k.out x2
          have d3 := own3_at O9k.out x3
          have d4 := own3_at O13k.out x1
          have d5 := own3_at O13k.out x2
          have d6 := own3_at O13k.out x3
          clear x1 x2 x3 hs
          go_wp2_with fail
          go_quiet (fail)
          go_wp2
          go_roundw
          case rel => exact ⟨k + 1, _, by omega, by go_num, rfl⟩
          case measure => simp [intOf]; omega
        · obtain rfl : k = L.length := by omega
          go_wp2
          go_ret
          exact ⟨rfl, below_drewN B13.out _⟩
    · have CL := Lib.hid (lines_bad w1 A B xs.length c ys.length d k hk)
      have HK := Lib.hid hk
      have RF := Lib.hid fun W hh gg => refLines_any W (.slice A xs.length c) (.slice B ys.length d) xs ys hh gg
      clear hxs hys hk
      go_wp2_with fail
      refine CL.out.mono ?_
      rintro e w2 ⟨F1, rfl, f1, b2⟩
      have B2 := Lib.hid (B1.out.trans (b2.mono B1.out.size))
      have F1a := Lib.hid f1
      clear f1 b2 CL
      go_wp2_with fail
      refine (RF.out w2 (H0.out.below B2.out) (G0.out.below B2.out)).mono ?_
      rintro e w3 (⟨hx, hy, _⟩ | ⟨k', g, hk', rfl, hg, b3⟩)
      case inl => have := HK.out; unfold Over at this; omega
      obtain rfl := over_same HK.out hk'
      clear hk'
      have B3 := Lib.hid (B2.out.trans (b3.mono B2.out.size))
      have F1b := Lib.hid (F1a.out.below b3 F1a.out.lt)
      have b4 := (Below.refl w3.heap.size w3).alloc (Nat.le_refl _) (.cells #[.slice (some ⟨g, 0, none⟩) 1 1, .int .i64 4] 33)
      have B4 := Lib.hid (B3.out.trans (b4.mono B3.out.size))
      have F1c := Lib.hid (F1b.out.below b4 F1b.out.lt)
      have PG := Lib.hid (Blk.below hg b4 hg.lt)
      have KE := Lib.hid (Blk.new w3 33 #[.slice (some ⟨g, 0, none⟩) 1 1, .int .i64 4])
      clear hg b3 b4 F1a F1b RF
      go_wp2_with fail
      generalize hW4 : w3.alloc (.cells #[.slice (some ⟨g, 0, none⟩) 1 1, .int .i64 4] 33) = W4 at *
      clear hW4
      generalize w3.heap.size = E at *
      refine (matches_bad W4 A B xs.length c ys.length d k HK.out).mono ?_
      rintro e w5 ⟨F2, rfl, f2, b5⟩
      have B5 := Lib.hid (B4.out.trans (b5.mono B4.out.size))
      have F1d := Lib.hid (F1c.out.below b5 F1c.out.lt)
      have F2d := Lib.hid f2
      have PG5 := Lib.hid (PG.out.below b5 PG.out.lt)
      have KE5 := Lib.hid (KE.out.below b5 KE.out.lt)
      clear f2 b5 F1c PG KE B4
      go_wp2_with fail
      refine (diffCommon_bad w5 A B xs.length c ys.length d k HK.out).mono ?_
      rintro e w6 ⟨F3, rfl, f3, b6⟩
      have B6 := Lib.hid (B5.out.trans (b6.mono B5.out.size))
      have F1e := Lib.hid (F1d.out.below b6 F1d.out.lt)
      have F2e := Lib.hid (F2d.out.below b6 F2d.out.lt)
      have F3e := Lib.hid f3
      have PG6 := Lib.hid (PG5.out.below b6 PG5.out.lt)
      have KE6 := Lib.hid (KE5.out.below b6 KE5.out.lt)
      clear f3 b6 F1d F2d PG5 KE5 B5
      have c0 := KE6.out.cell 0
      have c1 := KE6.out.cell 1
      go_wp2_with fail
      refine (tells_over w6 F1 g k (over_01 HK.out) F1e.out PG6.out (E0.out.below B6.out)).mono ?_
      rintro e w7 ⟨rfl, b7⟩
      have B7 := Lib.hid (B6.out.trans (b7.mono B6.out.size))
      have F2f := Lib.hid (F2e.out.below b7 F2e.out.lt)
      have F3f := Lib.hid (F3e.out.below b7 F3e.out.lt)
      have PG7 := Lib.hid (PG6.out.below b7 PG6.out.lt)
      have KE7 := Lib.hid (KE6.out.below b7 KE6.out.lt)
      clear b7 c0 c1 KE6 B6 F1e F2e F3e PG6
      have c0 := KE7.out.cell 0
      have c1 := KE7.out.cell 1
      go_wp2_with fail
      refine (tells_over w7 F2 g k (over_01 HK.out) F2f.out PG7.out (E0.out.below B7.out)).mono ?_
      rintro e w8 ⟨rfl, b8⟩
      have B8 := Lib.hid (B7.out.trans (b8.mono B7.out.size))
      have F3g := Lib.hid (F3f.out.below b8 F3f.out.lt)
      have PG8 := Lib.hid (PG7.out.below b8 PG7.out.lt)
      have KE8 := Lib.hid (KE7.out.below b8 KE7.out.lt)
      clear b8 c0 c1 KE7 B7 F2f F3f PG7
      have c0 := KE8.out.cell 0
      have c1 := KE8.out.cell 1
      go_wp2_with fail
      refine (tells_over w8 F3 g k (over_01 HK.out) F3g.out PG8.out (E0.out.below B8.out)).mono ?_
      rintro e w9 ⟨rfl, b9⟩
      have B9 := Lib.hid (B8.out.trans (b9.mono B8.out.size))
      have KE9 := Lib.hid (KE8.out.below b9 KE8.out.lt)
      clear b9 c0 c1 KE8 B8 F3g PG8
      go_wp2_with fail
      refine (edits_same w9 w9.heap.size w9.heap.size _ _ [] (World.ownsRow_nil _ _ _ _) (World.ownsRow_nil _ _ _ _) (by simp)).mono ?_
      rintro e w10 ⟨rfl, b10⟩
      have B10 := Lib.hid (B9.out.trans (b10.mono B9.out.size))
      have KE10 := Lib.hid (KE9.out.below b10 KE9.out.lt)
      clear b10 KE9 B9
      have c1 := KE10.out.cell 1
      go_wp2
      go_ret
      exact ⟨rfl, B10.out⟩
end Go.Proofs.YtdpoeagmeiedcaaDoor
