/-
  The walk of LogPlays.
-/
import Derived.Test.YtcfcbfpnaaeaaaaAppend
import Derived.Deep.DeepCutAuto
import Derived.Deep.CutBlock
namespace Go.Proofs.Ytcfcbfpnaaeaaaa
open Go.RowKit

/-- Each act of a slice of n lies in its two cells. -/
def Acts (w : World) (A : Option Addr) (n : Nat) : Prop :=
  ∀ i : Nat, i < n → ∃ (ad : Addr) (o : Int) (s : ByteArray), A = some ad ∧ w.cell? (ad.add (i * 2)) = some (.int .i64 o) ∧ w.cell? ⟨(ad.add (i * 2)).block, (ad.add (i * 2)).off + 1, none⟩ = some (.string s) ∧ s.size ≤ maxLen

set_option maxRecDepth 100000 in
set_option maxHeartbeats 4000000 in
theorem plays_few (w : World) (A : Option Addr) (n c : Nat) (hn : n ≤ 150) (hA : Acts w A n) : Calls Try.prog 3 #[.slice A n c] w (YesB w) := by
  have HA := Lib.hid hA
  clear hA
  go_enter Try.func3, Try.ntmps3
  go_wp2_with fail
  refine (known_yes w).mono ?_
  rintro e w1 ⟨rfl, hb1⟩
  have T1 := Two.new w1 (.slice none 0 0) (.slice none 0 0) 26
  have G1 := hb1.alloc hb1.size (.cells #[.slice none 0 0, .slice none 0 0] 26)
  go_wp2_with fail
  obtain ⟨b, hbd⟩ : ∃ b, b = w1.heap.size := ⟨_, rfl⟩
  rw [← hbd] at T1 ⊢
  have hbw : w.heap.size ≤ b := by rw [hbd]; exact hb1.size
  clear hbd hb1
  go_loopw [4, 5, 6] (fun s4 s5 i wr => ∃ (j : Nat) (A1 A2 A3 A4 : Option Addr) (m1 m2 m3 m4 c1 c2 c3 c4 : Nat) (bk fk : List ByteArray), j ≤ n ∧ i = .int .i64 j ∧ s4 = .slice A3 m3 c3 ∧ s5 = .slice A4 m4 c4 ∧ Two wr b (.slice A1 m1 c1) (.slice A2 m2 c2) ∧ Log wr (.agg #[.slice A1 m1 c1, .slice A2 m2 c2]) bk fk ∧ Strs wr (.slice A3 m3 c3) bk ∧ Strs wr (.slice A4 m4 c4) fk ∧ bk.length ≤ 64 ∧ fk.length ≤ j ∧ Below w.heap.size w wr) (fun _ _ i _ => n - (intOf i).toNat)
  case atStart => exact ⟨0, _, _, _, _, _, _, _, _, _, _, _, _, [], [], Nat.zero_le _, rfl, rfl, rfl, T1, Log.empty _, Strs.nil _, Strs.nil _, by simp, by simp, G1⟩
  case round =>
    clear T1 G1
    obtain ⟨j, A1, A2, A3, A4, m1, m2, m3, m4, c1, c2, c3, c4, bk, fk, hj, rfl, rfl, rfl, T, H, S3, S4, hbk, hfk, G⟩ := hrel
    have t0 := T.c0
    have t1 := T.c1
    by_cases hlt : j < n
    · obtain ⟨ad, o, s, rfl, a0, a1, hs⟩ := HA.out j hlt
      replace a0 := (G.cell (World.block_lt_of_cell? w _ a0)).trans a0
      replace a1 := (G.cell (World.block_lt_of_cell? w _ a1)).trans a1
      have hi0 : (0 : Int) ≤ (j : Int) := Int.natCast_nonneg _
      have hi1 : (j : Int) < (n : Int) := by omega
      by_cases h100 : 100 < s.size
      · go_wp2
        go_ret
        exact ⟨rfl, G.alloc G.size _⟩
      go_upto_region 13 with fail
      have E1 := (Below.refl wr.heap.size wr).alloc (Nat.le_refl _) (.cells #[.int .i64 o, .string s] 28)
      have N1 : Now w (wr.alloc (.cells #[.int .i64 o, .string s] 28)) b wr.heap.size (.slice A1 m1 c1) (.slice A2 m2 c2) (.slice A3 m3 c3) (.slice A4 m4 c4) o s bk fk :=
        ⟨T.below E1, Two.new wr _ _ 28, H.parts.1.below E1, H.parts.2.below E1, S3.below E1, S4.below E1, G.trans (E1.mono G.size)⟩
      obtain ⟨q, hq⟩ : ∃ q, q = wr.heap.size := ⟨_, rfl⟩
      rw [← hq] at N1 ⊢
      generalize wr.alloc (.cells #[.int .i64 o, .string s] 28) = w2 at *
      clear T H S3 S4 G E1 t0 t1 a0 a1 hi0 hi1 hq
      have hs1 := N1.s1.alloc (.cells #[] 9)
      have hl1 := Lib.hid N1.s1.len
      have hl2 := Lib.hid N1.s2.len
      have hl3 := Lib.hid N1.s3.len
      have hl4 := Lib.hid N1.s4.len
      have p1 : 0 + m1 ≤ 1000000 := by have := hl1.out; omega
      have p2 : 0 + m2 ≤ 1000000 := by have := hl2.out; omega
      have t0 := N1.t.c0
      have t1 := N1.t.c1
      have hbl := N1.t.lt
      go_upto_region 14 with (at_builtin; refine wpList_append_strs _ rfl _ _ rfl w2.heap.size 0 _ [] bk rfl (own_made w2) A1 m1 c1 rfl hs1 p1 (by simp) ?_; intro Ax mx cx w3 hox hb3 _)
      have E3 := ((Below.refl w2.heap.size w2).alloc (Nat.le_refl _) (.cells #[] 9)).trans hb3
      have X3 : Strs w3 (.slice Ax mx cx) bk := Strs.of_own hox (by simpa using hl1.out.1)
      replace N1 := N1.below E3
      clear hox hb3 E3 hs1 t0 t1 hbl p1
      have hs1 := N1.s2.alloc (.cells #[] 9)
      have t0 := N1.t.c0
      have t1 := N1.t.c1
      have hbl := N1.t.lt
      go_upto_region 15 with (at_builtin; refine wpList_append_strs _ rfl _ _ rfl w3.heap.size 0 _ [] fk rfl (own_made w3) A2 m2 c2 rfl hs1 p2 (by simp) ?_; intro Ay my cy w4 hoy hb4 _)
      have E4 := ((Below.refl w3.heap.size w3).alloc (Nat.le_refl _) (.cells #[] 9)).trans hb4
      have Y4 : Strs w4 (.slice Ay my cy) fk := Strs.of_own hoy (by simpa using hl2.out.1)
      have X4 := X3.below E4
      replace N1 := N1.below E4
      clear hoy hb4 E4 hs1 t0 t1 hbl p2 X3
      have t0 := N1.t.c0
      have t1 := N1.t.c1
      have hbl := N1.t.lt
      have hql := N1.d.lt
      have d0 := N1.d.c0
      have d1 := N1.d.c1
      go_upto_block 2 with fail
      have E5 := (Below.refl w4.heap.size w4).alloc (Nat.le_refl _) (.cells #[.slice A1 m1 c1, .slice A2 m2 c2] 26)
      have T5 := Two.new w4 (.slice A1 m1 c1) (.slice A2 m2 c2) 26
      obtain ⟨M, hM⟩ : ∃ M, M = w4.heap.size := ⟨_, rfl⟩
      have hMq : q < M := by omega
      have hMb : b < M := by omega
      rw [← hM] at E5 T5 ⊢
      have N5 : Now w (w4.alloc (.cells #[.slice A1 m1 c1, .slice A2 m2 c2] 26)) b q (.slice A1 m1 c1) (.slice A2 m2 c2) (.slice A3 m3 c3) (.slice A4 m4 c4) o s bk fk := N1.below (by rw [← hM]; exact E5)
      generalize w4.alloc (.cells #[.slice A1 m1 c1, .slice A2 m2 c2] 26) = w5 at *
      have HM := Lib.hid hM
      clear t0 t1 hbl hql d0 d1 hM
      go_cut [4, 5] (fun x4 x5 wx => Met M j w4 x4 x5 wx)
      case first =>
        have t0 := N5.t.c0
        have t1 := N5.t.c1
        have d0 := N5.d.c0
        have d1 := N5.d.c1
        have hpb : bk.length < 1000000 := by omega
        have hpf : fk.length < 1000000 := by omega
        by_cases ho : o = 1
        · subst ho
          as_aux_lemma =>
            go_wp2_with fail
            refine (do_any _ _ bk fk s ⟨_, _, rfl, N5.s1, N5.s2⟩ hpb).mono ?_
            rintro e w6 ⟨v6, rfl, hl6, hb6⟩
            obtain ⟨A5, m5, c5, A6, m6, c6, rfl⟩ := hl6.form
            have T6 := T5.below hb6
            have E6 := E5.trans (hb6.mono (by have := E5.size; have := HM.out; omega))
            clear t0 t1 d0 d1 N5 T5 E5 hb6
            have t0 := T6.c0
            have t1 := T6.c1
            have z0 := T6.z0
            have z1 := T6.z1
            have T7 := T6.put (.slice A5 m5 c5) (.slice A6 m6 c6)
            have H7 := Log.put T6 hl6 (.slice A5 m5 c5) (.slice A6 m6 c6)
            have E7 := (E6.setCell (p := ⟨M, 0, none⟩) (Nat.le_refl M) (.slice A5 m5 c5)).setCell (p := ⟨M, 1, none⟩) (Nat.le_refl M) (.slice A6 m6 c6)
            go_upto_region 19 with fail
            clear t0 t1 z0 z1 T6 E6 hl6
            generalize (w6.setCell ⟨M, 0, none⟩ (.slice A5 m5 c5)).setCell ⟨M, 1, none⟩ (.slice A6 m6 c6) = w7 at *
            have N7 := N1.below (by rw [← HM.out]; exact E7)
            have hqN := N7.d.lt
            have d1 := N7.d.c1
            have S33 := N7.s3
            have Ba := ((Below.refl w7.heap.size w7).drew).alloc (Nat.le_refl _) (.cells #[] 9)
            have Bb := Ba.alloc Ba.size (.cells #[.string s] 9)
            have Bc0 := ((Below.refl w7.heap.size w7).drew).alloc (Nat.le_refl _) (.cells #[.string s] 9)
            have Bc := Bc0.alloc Bc0.size (.cells #[] 9)
            have Sa : Strs (w7.drew.alloc (.cells #[] 9)) (.slice A3 m3 c3) bk := S33.drew.alloc _
            have Sb : Strs ((w7.drew.alloc (.cells #[] 9)).alloc (.cells #[.string s] 9)) (.slice A3 m3 c3) bk := Sa.alloc _
            have Sc0 : Strs (w7.drew.alloc (.cells #[.string s] 9)) (.slice A3 m3 c3) bk := S33.drew.alloc _
            have Sc : Strs ((w7.drew.alloc (.cells #[.string s] 9)).alloc (.cells #[] 9)) (.slice A3 m3 c3) bk := Sc0.alloc _
            have Hc : Below (w7.heap.size + 1) (w7.drew.alloc (.cells #[.string s] 9)) ((w7.drew.alloc (.cells #[.string s] 9)).alloc (.cells #[] 9)) := (Below.refl _ _).alloc (by simp) _
            have Oa := own_made w7.drew
            have Ob := Oa.alloc (.cells #[.string s] 9)
            have Oc : ((w7.drew.alloc (.cells #[.string s] 9)).alloc (.cells #[] 9)).ownsRow (w7.heap.size + 1) 9 1 (.slice (some ⟨w7.heap.size + 1, 0, none⟩) 0 0) 0 (([] : List ByteArray).map Value.string) := by
              have := own_made (w7.drew.alloc (.cells #[.string s] 9))
              simpa using this
            have hn1 : w7.heap.size ≤ w7.heap.size + 1 := Nat.le_succ _
            have hc1 : w7.heap.size + 1 ≤ ((w7.drew.alloc (.cells #[.string s] 9)).alloc (.cells #[] 9)).heap.size := by simp
            have hlen := Lib.hid S33.len
            have hpa : 0 + m3 ≤ 1000000 := by have := hlen.out; omega
            have hpb : 0 + m3 + 1 ≤ 1000000 := by have := hlen.out; omega
            go_region_held3 (fun w' => w'.cell? ⟨q, 1, none⟩ = some (.string s)) (first | assumption | go_keep)
              (first
                | (refine step_append_strs _ rfl _ _ rfl _ 0 (.slice (some ⟨w7.heap.size, 0, none⟩) 0 0) [] bk rfl Oa A3 m3 c3 rfl Sa hpa Ba.size ?_; intro Ap mp cp wp ho8 hb8 hg8; have F8 := Ba.trans hb8; have k8 := (F8.cell (p := ⟨q, 1, none⟩) hqN).trans d1; have so := strs_one wp s; have o8 := ho8.alloc (.cells #[.string s] 9); have F9 := F8.alloc F8.size (.cells #[.string s] 9); have hbs := F9.size; have hnb : w7.heap.size ≤ w7.drew.heap.size := Nat.le_refl _)
                | (refine step_append_strs _ rfl _ _ rfl _ 0 (.slice (some ⟨w7.heap.size, 0, none⟩) 0 0) [] bk rfl Ob A3 m3 c3 rfl Sb hpa Bb.size ?_; intro Ap mp cp wp ho8 hb8 hg8; have F9 := Bb.trans hb8; have k8 := (F9.cell (p := ⟨q, 1, none⟩) hqN).trans d1; have so : Strs wp (.slice (some ⟨w7.heap.size + 1, 0, none⟩) 1 1) [s] := (by have := strs_far (strs_one (w7.drew.alloc (.cells #[] 9)) s) hg8 (by simp [Value.ownBlock]); simpa using this); have o8 := ho8; have hbs := F9.size; have hnb : w7.heap.size ≤ w7.drew.heap.size := Nat.le_refl _)
                | (refine step_append_strs _ rfl _ _ rfl _ 0 (.slice (some ⟨w7.heap.size + 1, 0, none⟩) 0 0) [] bk rfl Oc A3 m3 c3 rfl Sc hpa hc1 ?_; intro Ap mp cp wp ho8 hb8 hg8; have F9 := Bc.trans (hb8.mono hn1); have k8 := (F9.cell (p := ⟨q, 1, none⟩) hqN).trans d1; have so : Strs wp (.slice (some ⟨w7.heap.size, 0, none⟩) 1 1) [s] := (strs_one w7.drew s).below (by have := Hc.trans hb8; simpa using this); have o8 := ho8; have hbs := Nat.le_trans hc1 hb8.size; have hnb := hn1)
                | (refine step_append_strs _ rfl _ _ rfl _ (0 + m3) _ ([] ++ bk) [s] rfl o8 _ 1 1 rfl so hpb hbs ?_; intro Aq mq cq wq ho9 hb9 hg9; have G9 := F9.trans (hb9.mono hnb); have k9 := (G9.cell (p := ⟨q, 1, none⟩) hqN).trans d1)
                | (trace_state; fail))
            all_goals (go_wp2_with fail; go_meet; unfold Met; exact ⟨Aq, none, A5, A6, mq, cq, 0, 0, m5, c5, m6, c6, bk ++ [s], [], rfl, rfl, T7.below G9, H7.parts.1.below G9, H7.parts.2.below G9, Strs.of_own ho9 (by have := hlen.out; simp; omega), Strs.nil _, by simp; omega, by simp, E7.trans (G9.mono (by have := E7.size; have := HM.out; omega))⟩)
        · by_cases ho2 : o = 2
          · subst ho2
            by_cases hb0 : bk = []
            · subst hb0
              as_aux_lemma =>
                obtain rfl : m3 = 0 := by have := hl3.out; simp at this; omega
                go_wp2_with fail
                refine (undo_none _ _ fk s ⟨_, _, rfl, N5.s1, N5.s2⟩).mono ?_
                rintro e w6 ⟨v6, rfl, hl6, hb6⟩
                obtain ⟨A5, m5, c5, A6, m6, c6, rfl⟩ := hl6.form
                have E6 := E5.trans (hb6.mono (by have := E5.size; have := HM.out; omega))
                have a6 := (Below.refl w6.heap.size w6).alloc (Nat.le_refl _) (.cells #[.slice A5 m5 c5, .slice A6 m6 c6] 26)
                have T6 := (T5.below hb6).below a6
                have E7 := E6.trans (a6.mono (by have := E6.size; have := HM.out; omega))
                have N7 := N1.below (by rw [← HM.out]; exact E7)
                clear t0 t1 d0 d1 N5 T5 E5 hb6 E6 a6 hl6
                rw [show ByteArray.empty = ({ data := #[] } : ByteArray) from rfl]
                go_wp2_with fail
                go_meet
                unfold Met
                exact ⟨A3, A4, A1, A2, 0, c3, m4, c4, m1, c1, m2, c2, [], fk, rfl, rfl, T6, by rw [lastOf_few _ hbk]; exact N7.s1, N7.s2, N7.s3, N7.s4, by omega, by omega, E7⟩
            · obtain ⟨bk0, x, rfl⟩ : ∃ b0 x, bk = b0 ++ [x] := ⟨bk.dropLast, bk.getLast hb0, (List.dropLast_concat_getLast hb0).symm⟩
              as_aux_lemma =>
                obtain ⟨p, rfl⟩ : ∃ p, m3 = p + 1 := ⟨m3 - 1, by have := hl3.out; simp at this; omega⟩
                have hp150 : p ≤ 1000 := by have := hl3.out; omega
                have hp0 := Lib.hid (show p = bk0.length by have := hl3.out; simp at this; omega)
                obtain ⟨a3, x', rfl, hx', _⟩ := N5.s3.cell (k := p) (by omega)
                obtain rfl : x' = x := by rw [hp0.out] at hx'; simp at hx'; exact hx'.symm
                clear hx'
                go_wp2_with fail
                refine (undo_some _ _ bk0 fk x' s ⟨_, _, rfl, N5.s1, N5.s2⟩ (by simp at hbk; omega) hpf).mono ?_
                rintro e w6 ⟨v6, rfl, hl6, hb6⟩
                obtain ⟨A5, m5, c5, A6, m6, c6, rfl⟩ := hl6.form
                have E6 := E5.trans (hb6.mono (by have := E5.size; have := HM.out; omega))
                have a6 := (Below.refl w6.heap.size w6).alloc (Nat.le_refl _) (.cells #[.slice A5 m5 c5, .slice A6 m6 c6] 26)
                have T6 := (T5.below hb6).below a6
                have P6 := hl6.below a6
                have U6 := Two.new w6 (.slice A5 m5 c5) (.slice A6 m6 c6) 26
                have E7 := E6.trans (a6.mono (by have := E6.size; have := HM.out; omega))
                clear t0 t1 d0 d1 N5 T5 E5 hb6 E6 a6 hl6
                go_upto_region 23 with fail
                obtain ⟨r, hr⟩ : ∃ r, r = w6.heap.size := ⟨_, rfl⟩
                rw [← hr] at U6 ⊢
                clear hr
                generalize w6.alloc (.cells #[.slice A5 m5 c5, .slice A6 m6 c6] 26) = w7 at *
                have N7 := N1.below (by rw [← HM.out]; exact E7)
                obtain ⟨a3', x'', ha3, hx'', hx7⟩ := N7.s3.cell (k := p) (by omega)
                obtain rfl := Option.some.inj ha3
                obtain rfl : x'' = x' := by rw [hp0.out] at hx''; simp at hx''; exact hx''.symm
                clear hx'' ha3 N7
                have hi0 : (0 : Int) ≤ (p : Int) := Int.natCast_nonneg _
                have hi1 : (p : Int) < (p : Int) + 1 := by omega
                have hpc : p ≤ c3 := by have := hl3.out; omega
                have hpc' : (p : Int) ≤ (c3 : Int) := by omega
                have t0 := T6.c0
                have t1 := T6.c1
                have z0 := T6.z0
                have z1 := T6.z1
                have r0 := U6.c0
                have r1 := U6.c1
                have T8 := T6.put (.slice A5 m5 c5) (.slice A6 m6 c6)
                have H8 := Log.put T6 P6 (.slice A5 m5 c5) (.slice A6 m6 c6)
                have E8 := (E7.setCell (p := ⟨M, 0, none⟩) (Nat.le_refl M) (.slice A5 m5 c5)).setCell (p := ⟨M, 1, none⟩) (Nat.le_refl M) (.slice A6 m6 c6)
                go_upto_region 29 with fail
                clear t0 t1 z0 z1 r0 r1 T6 P6 U6 E7 hx7
                generalize (w7.setCell ⟨M, 0, none⟩ (.slice A5 m5 c5)).setCell ⟨M, 1, none⟩ (.slice A6 m6 c6) = w8 at *
                have N8 := N1.below (by rw [← HM.out]; exact E8)
                have St : Strs w8 (.slice (some a3) p c3) bk0 := by
                  have := N8.s3.take (k := p) (by omega)
                  rwa [hp0.out, List.take_left, ← hp0.out] at this
                have ha := St.alloc (.cells #[] 9)
                have hpp : 0 + p ≤ 1000000 := by have := hl3.out; have := hp0.out; omega
                clear N8
                go_upto_region 30 with (at_builtin; refine wpList_append_strs _ rfl _ _ rfl w8.heap.size 0 _ [] bk0 rfl (own_made w8) (some a3) p c3 rfl ha hpp (by simp) ?_; intro Az mz cz w9 hoz hbz _)
                have Ez := ((Below.refl w8.heap.size w8).alloc (Nat.le_refl _) (.cells #[] 9)).trans hbz
                have Sz : Strs w9 (.slice Az mz cz) bk0 := Strs.of_own hoz (by have := hp0.out; simp; omega)
                have T9 := T8.below Ez
                have H9 := H8.below Ez
                have E9 := E8.trans (Ez.mono (by have := E8.size; have := HM.out; omega))
                have N9 := N1.below (by rw [← HM.out]; exact E9)
                clear hoz hbz Ez St ha hpp T8 H8 E8 hi0 hi1 hpc hpc'
                have d1 := N9.d.c1
                have hqN := N9.d.lt
                have S44 := N9.s4
                have Ba := ((Below.refl w9.heap.size w9).drew).alloc (Nat.le_refl _) (.cells #[] 9)
                have Bb := Ba.alloc Ba.size (.cells #[.string s] 9)
                have Bc0 := ((Below.refl w9.heap.size w9).drew).alloc (Nat.le_refl _) (.cells #[.string s] 9)
                have Bc := Bc0.alloc Bc0.size (.cells #[] 9)
                have Sa : Strs (w9.drew.alloc (.cells #[] 9)) (.slice A4 m4 c4) fk := S44.drew.alloc _
                have Sb : Strs ((w9.drew.alloc (.cells #[] 9)).alloc (.cells #[.string s] 9)) (.slice A4 m4 c4) fk := Sa.alloc _
                have Sc0 : Strs (w9.drew.alloc (.cells #[.string s] 9)) (.slice A4 m4 c4) fk := S44.drew.alloc _
                have Sc : Strs ((w9.drew.alloc (.cells #[.string s] 9)).alloc (.cells #[] 9)) (.slice A4 m4 c4) fk := Sc0.alloc _
                have Hc : Below (w9.heap.size + 1) (w9.drew.alloc (.cells #[.string s] 9)) ((w9.drew.alloc (.cells #[.string s] 9)).alloc (.cells #[] 9)) := (Below.refl _ _).alloc (by simp) _
                have Oa := own_made w9.drew
                have Ob := Oa.alloc (.cells #[.string s] 9)
                have Oc : ((w9.drew.alloc (.cells #[.string s] 9)).alloc (.cells #[] 9)).ownsRow (w9.heap.size + 1) 9 1 (.slice (some ⟨w9.heap.size + 1, 0, none⟩) 0 0) 0 (([] : List ByteArray).map Value.string) := by
                  have := own_made (w9.drew.alloc (.cells #[.string s] 9))
                  simpa using this
                have hn1 : w9.heap.size ≤ w9.heap.size + 1 := Nat.le_succ _
                have hc1 : w9.heap.size + 1 ≤ ((w9.drew.alloc (.cells #[.string s] 9)).alloc (.cells #[] 9)).heap.size := by simp
                have hlen := Lib.hid S44.len
                have hpa : 0 + m4 ≤ 1000000 := by have := hlen.out; omega
                have hpb : 0 + m4 + 1 ≤ 1000000 := by have := hlen.out; omega
                go_region_held3 (fun w' => w'.cell? ⟨q, 1, none⟩ = some (.string s)) (first | assumption | go_keep)
                  (first
                    | (refine step_append_strs _ rfl _ _ rfl _ 0 (.slice (some ⟨w9.heap.size, 0, none⟩) 0 0) [] fk rfl Oa A4 m4 c4 rfl Sa hpa Ba.size ?_; intro Ap mp cp wp ho8 hb8 hg8; have F8 := Ba.trans hb8; have k8 := (F8.cell (p := ⟨q, 1, none⟩) hqN).trans d1; have so := strs_one wp s; have o8 := ho8.alloc (.cells #[.string s] 9); have F9 := F8.alloc F8.size (.cells #[.string s] 9); have hbs := F9.size; have hnb : w9.heap.size ≤ w9.drew.heap.size := Nat.le_refl _)
                    | (refine step_append_strs _ rfl _ _ rfl _ 0 (.slice (some ⟨w9.heap.size, 0, none⟩) 0 0) [] fk rfl Ob A4 m4 c4 rfl Sb hpa Bb.size ?_; intro Ap mp cp wp ho8 hb8 hg8; have F9 := Bb.trans hb8; have k8 := (F9.cell (p := ⟨q, 1, none⟩) hqN).trans d1; have so : Strs wp (.slice (some ⟨w9.heap.size + 1, 0, none⟩) 1 1) [s] := (by have := strs_far (strs_one (w9.drew.alloc (.cells #[] 9)) s) hg8 (by simp [Value.ownBlock]); simpa using this); have o8 := ho8; have hbs := F9.size; have hnb : w9.heap.size ≤ w9.drew.heap.size := Nat.le_refl _)
                    | (refine step_append_strs _ rfl _ _ rfl _ 0 (.slice (some ⟨w9.heap.size + 1, 0, none⟩) 0 0) [] fk rfl Oc A4 m4 c4 rfl Sc hpa hc1 ?_; intro Ap mp cp wp ho8 hb8 hg8; have F9 := Bc.trans (hb8.mono hn1); have k8 := (F9.cell (p := ⟨q, 1, none⟩) hqN).trans d1; have so : Strs wp (.slice (some ⟨w9.heap.size, 0, none⟩) 1 1) [s] := (strs_one w9.drew s).below (by have := Hc.trans hb8; simpa using this); have o8 := ho8; have hbs := Nat.le_trans hc1 hb8.size; have hnb := hn1)
                    | (refine step_append_strs _ rfl _ _ rfl _ (0 + m4) _ ([] ++ fk) [s] rfl o8 _ 1 1 rfl so hpb hbs ?_; intro Aq mq cq wq ho9 hb9 hg9; have G9 := F9.trans (hb9.mono hnb); have k9 := (G9.cell (p := ⟨q, 1, none⟩) hqN).trans d1)
                    | (trace_state; fail))
                all_goals (go_wp2_with fail; go_meet; unfold Met; exact ⟨Az, Aq, A5, A6, mz, cz, mq, cq, m5, c5, m6, c6, bk0, fk ++ [s], rfl, rfl, T9.below G9, by rw [lastOf_few _ (by simp at hbk; omega)]; exact H9.parts.1.below G9, H9.parts.2.below G9, Sz.below G9, Strs.of_own ho9 (by have := hlen.out; simp; omega), by simp at hbk; omega, by simp; omega, E9.trans (G9.mono (by have := E9.size; have := HM.out; omega))⟩)
          · by_cases ho3 : o = 3
            · subst ho3
              by_cases hb0 : fk = []
              · subst hb0
                as_aux_lemma =>
                  obtain rfl : m4 = 0 := by have := hl4.out; simp at this; omega
                  go_wp2_with fail
                  refine (redo_none _ _ bk s ⟨_, _, rfl, N5.s1, N5.s2⟩).mono ?_
                  rintro e w6 ⟨v6, rfl, hl6, hb6⟩
                  obtain ⟨A5, m5, c5, A6, m6, c6, rfl⟩ := hl6.form
                  have E6 := E5.trans (hb6.mono (by have := E5.size; have := HM.out; omega))
                  have a6 := (Below.refl w6.heap.size w6).alloc (Nat.le_refl _) (.cells #[.slice A5 m5 c5, .slice A6 m6 c6] 26)
                  have T6 := (T5.below hb6).below a6
                  have E7 := E6.trans (a6.mono (by have := E6.size; have := HM.out; omega))
                  have N7 := N1.below (by rw [← HM.out]; exact E7)
                  clear t0 t1 d0 d1 N5 T5 E5 hb6 E6 a6 hl6
                  rw [show ByteArray.empty = ({ data := #[] } : ByteArray) from rfl]
                  go_wp2_with fail
                  go_meet
                  unfold Met
                  exact ⟨A3, A4, A1, A2, m3, c3, 0, c4, m1, c1, m2, c2, bk, [], rfl, rfl, T6, by rw [lastOf_few _ hbk]; exact N7.s1, N7.s2, N7.s3, N7.s4, by omega, by omega, E7⟩
              · obtain ⟨fk0, x, rfl⟩ : ∃ b0 x, fk = b0 ++ [x] := ⟨fk.dropLast, fk.getLast hb0, (List.dropLast_concat_getLast hb0).symm⟩
                as_aux_lemma =>
                  obtain ⟨p, rfl⟩ : ∃ p, m4 = p + 1 := ⟨m4 - 1, by have := hl4.out; simp at this; omega⟩
                  have hp150 : p ≤ 1000 := by have := hl4.out; omega
                  have hp0 := Lib.hid (show p = fk0.length by have := hl4.out; simp at this; omega)
                  obtain ⟨a3, x', rfl, hx', _⟩ := N5.s4.cell (k := p) (by omega)
                  obtain rfl : x' = x := by rw [hp0.out] at hx'; simp at hx'; exact hx'.symm
                  clear hx'
                  go_wp2_with fail
                  refine (redo_some _ _ bk fk0 x' s ⟨_, _, rfl, N5.s1, N5.s2⟩ hpb (by simp at hfk; omega)).mono ?_
                  rintro e w6 ⟨v6, rfl, hl6, hb6⟩
                  obtain ⟨A5, m5, c5, A6, m6, c6, rfl⟩ := hl6.form
                  have E6 := E5.trans (hb6.mono (by have := E5.size; have := HM.out; omega))
                  have a6 := (Below.refl w6.heap.size w6).alloc (Nat.le_refl _) (.cells #[.slice A5 m5 c5, .slice A6 m6 c6] 26)
                  have T6 := (T5.below hb6).below a6
                  have P6 := hl6.below a6
                  have U6 := Two.new w6 (.slice A5 m5 c5) (.slice A6 m6 c6) 26
                  have E7 := E6.trans (a6.mono (by have := E6.size; have := HM.out; omega))
                  clear t0 t1 d0 d1 N5 T5 E5 hb6 E6 a6 hl6
                  go_upto_region 33 with fail
                  obtain ⟨r, hr⟩ : ∃ r, r = w6.heap.size := ⟨_, rfl⟩
                  rw [← hr] at U6 ⊢
                  clear hr
                  generalize w6.alloc (.cells #[.slice A5 m5 c5, .slice A6 m6 c6] 26) = w7 at *
                  have N7 := N1.below (by rw [← HM.out]; exact E7)
                  obtain ⟨a3', x'', ha3, hx'', hx7⟩ := N7.s4.cell (k := p) (by omega)
                  obtain rfl := Option.some.inj ha3
                  obtain rfl : x'' = x' := by rw [hp0.out] at hx''; simp at hx''; exact hx''.symm
                  clear hx'' ha3 N7
                  have hi0 : (0 : Int) ≤ (p : Int) := Int.natCast_nonneg _
                  have hi1 : (p : Int) < (p : Int) + 1 := by omega
                  have hpc : p ≤ c4 := by have := hl4.out; omega
                  have hpc' : (p : Int) ≤ (c4 : Int) := by omega
                  have t0 := T6.c0
                  have t1 := T6.c1
                  have z0 := T6.z0
                  have z1 := T6.z1
                  have r0 := U6.c0
                  have r1 := U6.c1
                  have T8 := T6.put (.slice A5 m5 c5) (.slice A6 m6 c6)
                  have H8 := Log.put T6 P6 (.slice A5 m5 c5) (.slice A6 m6 c6)
                  have E8 := (E7.setCell (p := ⟨M, 0, none⟩) (Nat.le_refl M) (.slice A5 m5 c5)).setCell (p := ⟨M, 1, none⟩) (Nat.le_refl M) (.slice A6 m6 c6)
                  go_upto_region 39 with fail
                  clear t0 t1 z0 z1 r0 r1 T6 P6 U6 E7 hx7
                  generalize (w7.setCell ⟨M, 0, none⟩ (.slice A5 m5 c5)).setCell ⟨M, 1, none⟩ (.slice A6 m6 c6) = w8 at *
                  have N8 := N1.below (by rw [← HM.out]; exact E8)
                  have St : Strs w8 (.slice (some a3) p c4) fk0 := by
                    have := N8.s4.take (k := p) (by omega)
                    rwa [hp0.out, List.take_left, ← hp0.out] at this
                  have ha := St.alloc (.cells #[] 9)
                  have hpp : 0 + p ≤ 1000000 := by have := hl4.out; have := hp0.out; omega
                  clear N8
                  go_upto_region 40 with (at_builtin; refine wpList_append_strs _ rfl _ _ rfl w8.heap.size 0 _ [] fk0 rfl (own_made w8) (some a3) p c4 rfl ha hpp (by simp) ?_; intro Az mz cz w9 hoz hbz _)
                  have Ez := ((Below.refl w8.heap.size w8).alloc (Nat.le_refl _) (.cells #[] 9)).trans hbz
                  have Sz : Strs w9 (.slice Az mz cz) fk0 := Strs.of_own hoz (by have := hp0.out; simp; omega)
                  have T9 := T8.below Ez
                  have H9 := H8.below Ez
                  have E9 := E8.trans (Ez.mono (by have := E8.size; have := HM.out; omega))
                  have N9 := N1.below (by rw [← HM.out]; exact E9)
                  clear hoz hbz Ez St ha hpp T8 H8 E8 hi0 hi1 hpc hpc'
                  have d1 := N9.d.c1
                  have hqN := N9.d.lt
                  have S44 := N9.s3
                  have Ba := ((Below.refl w9.heap.size w9).drew).alloc (Nat.le_refl _) (.cells #[] 9)
                  have Bb := Ba.alloc Ba.size (.cells #[.string s] 9)
                  have Bc0 := ((Below.refl w9.heap.size w9).drew).alloc (Nat.le_refl _) (.cells #[.string s] 9)
                  have Bc := Bc0.alloc Bc0.size (.cells #[] 9)
                  have Sa : Strs (w9.drew.alloc (.cells #[] 9)) (.slice A3 m3 c3) bk := S44.drew.alloc _
                  have Sb : Strs ((w9.drew.alloc (.cells #[] 9)).alloc (.cells #[.string s] 9)) (.slice A3 m3 c3) bk := Sa.alloc _
                  have Sc0 : Strs (w9.drew.alloc (.cells #[.string s] 9)) (.slice A3 m3 c3) bk := S44.drew.alloc _
                  have Sc : Strs ((w9.drew.alloc (.cells #[.string s] 9)).alloc (.cells #[] 9)) (.slice A3 m3 c3) bk := Sc0.alloc _
                  have Hc : Below (w9.heap.size + 1) (w9.drew.alloc (.cells #[.string s] 9)) ((w9.drew.alloc (.cells #[.string s] 9)).alloc (.cells #[] 9)) := (Below.refl _ _).alloc (by simp) _
                  have Oa := own_made w9.drew
                  have Ob := Oa.alloc (.cells #[.string s] 9)
                  have Oc : ((w9.drew.alloc (.cells #[.string s] 9)).alloc (.cells #[] 9)).ownsRow (w9.heap.size + 1) 9 1 (.slice (some ⟨w9.heap.size + 1, 0, none⟩) 0 0) 0 (([] : List ByteArray).map Value.string) := by
                    have := own_made (w9.drew.alloc (.cells #[.string s] 9))
                    simpa using this
                  have hn1 : w9.heap.size ≤ w9.heap.size + 1 := Nat.le_succ _
                  have hc1 : w9.heap.size + 1 ≤ ((w9.drew.alloc (.cells #[.string s] 9)).alloc (.cells #[] 9)).heap.size := by simp
                  have hlen := Lib.hid S44.len
                  have hpa : 0 + m3 ≤ 1000000 := by have := hlen.out; omega
                  have hpb : 0 + m3 + 1 ≤ 1000000 := by have := hlen.out; omega
                  go_region_held3 (fun w' => w'.cell? ⟨q, 1, none⟩ = some (.string s)) (first | assumption | go_keep)
                    (first
                      | (refine step_append_strs _ rfl _ _ rfl _ 0 (.slice (some ⟨w9.heap.size, 0, none⟩) 0 0) [] bk rfl Oa A3 m3 c3 rfl Sa hpa Ba.size ?_; intro Ap mp cp wp ho8 hb8 hg8; have F8 := Ba.trans hb8; have k8 := (F8.cell (p := ⟨q, 1, none⟩) hqN).trans d1; have so := strs_one wp s; have o8 := ho8.alloc (.cells #[.string s] 9); have F9 := F8.alloc F8.size (.cells #[.string s] 9); have hbs := F9.size; have hnb : w9.heap.size ≤ w9.drew.heap.size := Nat.le_refl _)
                      | (refine step_append_strs _ rfl _ _ rfl _ 0 (.slice (some ⟨w9.heap.size, 0, none⟩) 0 0) [] bk rfl Ob A3 m3 c3 rfl Sb hpa Bb.size ?_; intro Ap mp cp wp ho8 hb8 hg8; have F9 := Bb.trans hb8; have k8 := (F9.cell (p := ⟨q, 1, none⟩) hqN).trans d1; have so : Strs wp (.slice (some ⟨w9.heap.size + 1, 0, none⟩) 1 1) [s] := (by have := strs_far (strs_one (w9.drew.alloc (.cells #[] 9)) s) hg8 (by simp [Value.ownBlock]); simpa using this); have o8 := ho8; have hbs := F9.size; have hnb : w9.heap.size ≤ w9.drew.heap.size := Nat.le_refl _)
                      | (refine step_append_strs _ rfl _ _ rfl _ 0 (.slice (some ⟨w9.heap.size + 1, 0, none⟩) 0 0) [] bk rfl Oc A3 m3 c3 rfl Sc hpa hc1 ?_; intro Ap mp cp wp ho8 hb8 hg8; have F9 := Bc.trans (hb8.mono hn1); have k8 := (F9.cell (p := ⟨q, 1, none⟩) hqN).trans d1; have so : Strs wp (.slice (some ⟨w9.heap.size, 0, none⟩) 1 1) [s] := (strs_one w9.drew s).below (by have := Hc.trans hb8; simpa using this); have o8 := ho8; have hbs := Nat.le_trans hc1 hb8.size; have hnb := hn1)
                      | (refine step_append_strs _ rfl _ _ rfl _ (0 + m3) _ ([] ++ bk) [s] rfl o8 _ 1 1 rfl so hpb hbs ?_; intro Aq mq cq wq ho9 hb9 hg9; have G9 := F9.trans (hb9.mono hnb); have k9 := (G9.cell (p := ⟨q, 1, none⟩) hqN).trans d1)
                      | (trace_state; fail))
                  all_goals (go_wp2_with fail; go_meet; unfold Met; exact ⟨Aq, Az, A5, A6, mq, cq, mz, cz, m5, c5, m6, c6, bk ++ [s], fk0, rfl, rfl, T9.below G9, H9.parts.1.below G9, H9.parts.2.below G9, Strs.of_own ho9 (by have := hlen.out; simp; omega), Sz.below G9, by simp; omega, by simp at hfk; omega, E9.trans (G9.mono (by have := E9.size; have := HM.out; omega))⟩)
            · go_wp2_with fail
              go_meet
              unfold Met
              exact ⟨A3, A4, A1, A2, m3, c3, m4, c4, m1, c1, m2, c2, bk, fk, rfl, rfl, T5, by rw [lastOf_few _ hbk]; exact N5.s1, N5.s2, N5.s3, N5.s4, by omega, by omega, E5⟩
      clear T5 N5 E5
      obtain ⟨B3, B4, B5, B6, k3, l3, k4, l4, k5, l5, k6, l6, bk', fk', rfl, rfl, TM, L5, L6, L3, L4, hb65, hf, EM⟩ := hcut
      have NC := N1.below (by rw [← HM.out]; exact EM)
      have XC := X4.below (by rw [← HM.out]; exact EM)
      have YC := Y4.below (by rw [← HM.out]; exact EM)
      clear N1 X4 Y4 EM
      have hk3 := Lib.hid L3.len
      have hl30 : k3 ≤ l3 := hk3.out.2.1
      go_upto_if 155 with fail
      go_cut [4] (fun x4 wx => ∃ (A : Option Addr) (m k : Nat), x4 = .slice A m k ∧ Strs wx (.slice A m k) (lastOf bk') ∧ Below wc.heap.size wc wx)
      case first =>
        by_cases h64 : 64 < k3
        · have hcut := L3.cut (k := 1) (by omega)
          rw [if_neg (by omega)] at hcut
          have hcu := hcut.alloc (.cells #[] 9)
          have hp : 0 + (k3 - 1) ≤ 1000000 := by have := hk3.out; omega
          clear hcut
          go_wp2_with (at_builtin; refine wpList_append_strs _ rfl _ _ rfl wc.heap.size 0 _ [] (bk'.drop 1) rfl (own_made wc) (B3.map (·.add 1)) (k3 - 1) (l3 - 1) rfl hcu hp (by simp) ?_; intro Az mz cz wd hoz hbz _)
          go_meet
          have e1 : lastOf bk' = bk'.drop 1 := by unfold lastOf; rw [show bk'.length - 64 = 1 by have := hk3.out; omega]
          exact ⟨Az, mz, cz, rfl, by rw [e1]; exact Strs.of_own hoz (by have := hk3.out; simp; omega), ((Below.refl _ _).alloc (Nat.le_refl _) _).trans hbz⟩
        · go_wp2_with fail
          go_meet
          exact ⟨_, _, _, rfl, by rw [lastOf_few _ (by have := hk3.out; omega)]; exact L3, Below.refl _ _⟩
      obtain ⟨A7, m7, k7, rfl, S7, EB⟩ := hcut
      as_aux_lemma =>
        have ND := NC.below EB
        have XD := XC.below EB
        have YD := YC.below EB
        have TD := TM.below EB
        have L5D := L5.below EB
        have L6D := L6.below EB
        have L4D := L4.below EB
        clear NC XC YC TM L5 L6 L3 L4 EB hl30
        have t0 := ND.t.c0
        have t1 := ND.t.c1
        have r0 := TD.c0
        have r1 := TD.c1
        go_wp2_with fail
        refine (Texts_yes _ _ _ bk ND.s1 XD).mono ?_
        rintro e w6 ⟨n1, rfl, rfl⟩
        go_wp2_with fail
        refine (Texts_yes _ _ _ fk (ND.s2.drewN n1) (YD.drewN n1)).mono ?_
        rintro e w6 ⟨n2, rfl, rfl⟩
        go_wp2_with fail
        refine (Texts_yes _ _ _ (lastOf bk') (L5D.drewN (n1 + n2)) (S7.drewN (n1 + n2))).mono ?_
        rintro e w6 ⟨n3, rfl, rfl⟩
        go_wp2_with fail
        refine (Texts_yes _ _ _ fk' (L6D.drewN (n1 + n2 + n3)) (L4D.drewN (n1 + n2 + n3))).mono ?_
        rintro e w6 ⟨n4, rfl, rfl⟩
        go_wp2_with fail
        refine (same_yes _ _ _ (lastOf bk') fk' ⟨_, _, rfl, L5D.drewN (n1 + n2 + n3 + n4), L6D.drewN (n1 + n2 + n3 + n4)⟩ ⟨_, _, rfl, S7.drewN (n1 + n2 + n3 + n4), L4D.drewN (n1 + n2 + n3 + n4)⟩).mono ?_
        rintro e w7 ⟨rfl, hb7⟩
        have B7 := (below_drewN (Below.refl _ _) (n1 + n2 + n3 + n4)).trans hb7
        have N8 := ND.below B7
        have T8 := TD.below B7
        have L58 := L5D.below B7
        have L68 := L6D.below B7
        have L48 := L4D.below B7
        have S78 := S7.below B7
        clear ND TD L5D L6D L4D S7 B7 hb7 XD YD t0 t1 r0 r1
        have t0 := N8.t.c0
        have t1 := N8.t.c1
        have z0 := N8.t.z0
        have z1 := N8.t.z1
        have r0 := T8.c0
        have r1 := T8.c1
        have TP := N8.t.put (.slice B5 k5 l5) (.slice B6 k6 l6)
        have HP := Log.put N8.t ⟨_, _, rfl, L58, L68⟩ (.slice B5 k5 l5) (.slice B6 k6 l6)
        have S7P := Strs.put N8.t S78 (.slice B5 k5 l5) (.slice B6 k6 l6)
        have S4P := Strs.put N8.t L48 (.slice B5 k5 l5) (.slice B6 k6 l6)
        have GP := (N8.g.setCell (p := ⟨b, 0, none⟩) hbw (.slice B5 k5 l5)).setCell (p := ⟨b, 1, none⟩) hbw (.slice B6 k6 l6)
        clear N8 T8 L58 L68 L48 S78
        go_wp2
        go_roundw
        case rel => exact ⟨j + 1, B5, B6, A7, B4, k5, k6, m7, k4, l5, l6, k7, l4, lastOf bk', fk', by omega, by go_num, rfl, rfl, TP, HP, S7P, S4P, lastOf_len bk', hf, GP⟩
        case measure => simp [intOf]; omega
    · obtain rfl : j = n := by omega
      go_wp2
      go_ret
      exact ⟨rfl, G⟩
end Go.Proofs.Ytcfcbfpnaaeaaaa
