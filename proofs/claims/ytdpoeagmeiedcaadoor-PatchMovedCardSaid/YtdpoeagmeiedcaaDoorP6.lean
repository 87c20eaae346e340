/-
  rectoref11.Apply: the document's hunks, done.
-/
import Derived.Test.YtdpoeagmeiedcaaDoorP5
namespace Go.Proofs.YtdpoeagmeiedcaaDoor
open Go Go.RowKit

/-- As the document tells it. -/
def RefAppliedTo (R : (Nat × Int) ⊕ List ByteArray) (w : World) (e : Ending) (w' : World) : Prop :=
  (∃ l v, R = .inr l ∧ e = .returned (.tuple #[v, wrong0]) ∧ w'.ownsRow w.heap.size 9 1 v l.length (l.map Value.string) ∧ Below w.heap.size w w') ∨
    ∃ (i : Nat) (k : Int) (g : Nat), R = .inl (i, k) ∧ e = .returned (.tuple #[.slice none 0 0, wrongG g k]) ∧ Blk w' g 104 #[.string bHunk, .int .i64 (i : Int)] ∧ Below w.heap.size w w'

set_option maxRecDepth 100000 in
set_option maxHeartbeats 8000000 in
theorem refApply_any (w : World) (va vh : Value) (xs : List ByteArray) (hs : List Hk) (ha : Strs w va xs) (hh : HksIn w vh hs) (lx : xs.length ≤ 1000) (lh : hs.length ≤ 200) (hok : ∀ h ∈ hs, HkOk h) :
    Calls Tryd.prog 31 #[va, vh] w (RefAppliedTo (applyH xs hs 0 [] 0) w) := by
  obtain ⟨B, n, d, rfl⟩ := ha.form
  obtain ⟨A, c, rfl⟩ := hh.form
  obtain rfl := ha.len.1
  have hxd := ha.len.2.1
  have hxm : d ≤ 9223372036854775807 := by have := ha.len.2.2; unfold maxLen at this; omega
  have hhc := hh.len.2.1
  have hhm : c ≤ 9223372036854775807 := by have := hh.len.2.2; unfold maxLen at this; omega
  have HA := Lib.hid ha
  have HH := Lib.hid hh
  have HOK := Lib.hid hok
  have E1 := (Below.refl w.heap.size w).alloc (Nat.le_refl _) (.cells #[.slice none 0 0, .int .i64 0] 33)
  have KY := Lib.hid (Blk.new w 33 #[.slice none 0 0, .int .i64 0])
  have HE1 := Lib.hid E1
  obtain ⟨i0, hi, hz0, hz1, hz2⟩ := info_parts strInfo
  obtain ⟨R, hR⟩ : ∃ R, R = applyH xs hs 0 [] 0 := ⟨_, rfl⟩
  rw [← hR]
  have HR := Lib.hid hR
  clear ha hh hok hR E1
  go_enter Tryd.func31, Tryd.ntmps31
  go_wp2_with fail
  generalize hW : w.alloc (.cells #[.slice none 0 0, .int .i64 0] 33) = W at *
  clear hW
  obtain ⟨Y, hY⟩ : ∃ Y, Y = w.heap.size := ⟨_, rfl⟩
  rw [← hY]
  rw [← hY] at KY
  have hYw : Hid (w.heap.size ≤ Y) := Lib.hid (by rw [hY]; exact Nat.le_refl _)
  have hYW := KY.out.lt
  clear hY
  go_loopw [6, 7, 8] (fun s6 s7 s8 wr => ∃ (k done : Nat) (out : List ByteArray), k ≤ hs.length ∧ s8 = .int .i64 k ∧ s7 = .int .i64 done ∧ wr.ownsRow W.heap.size 9 1 s6 out.length (out.map Value.string) ∧ Hid (applyH xs (hs.drop k) done out k = R) ∧ done ≤ xs.length ∧ out.length ≤ done + 200 * k ∧ Below W.heap.size W wr) (fun _ _ s8 _ => hs.length - (intOf s8).toNat)
  case atStart => exact ⟨0, 0, [], Nat.zero_le _, rfl, rfl, World.ownsRow_nil _ _ _ _, Lib.hid HR.out.symm, Nat.zero_le _, by simp, Below.refl _ _⟩
  case round =>
    obtain ⟨k, done, out, hk, rfl, rfl, hown, hap, hdone, hol, hb⟩ := hrel
    obtain ⟨wo, hwo⟩ : ∃ wo : World, wo = wr := ⟨_, rfl⟩
    rw [← hwo] at hown hb ⊢
    clear hwo
    have k0 : (0 : Int) ≤ (k : Int) := Int.natCast_nonneg _
    have d0 : (0 : Int) ≤ (done : Int) := Int.natCast_nonneg _
    obtain ⟨Ao, co, rfl⟩ := own_strs hown
    have HO := Lib.hid hown
    have HBo := Lib.hid (HE1.out.trans (hb.mono HE1.out.size))
    clear hown
    by_cases hlt : k < hs.length
    · have k1 : (k : Int) < (hs.length : Int) := by omega
      obtain ⟨x, hx⟩ : ∃ x, hs[k]? = some x := ⟨_, List.getElem?_eq_getElem hlt⟩
      obtain ⟨ad, vl, rfl, c0, c1, c2, c3, c4, hrd⟩ := HH.out.at2 (Below.refl _ _) hx
      have hxo := HOK.out x (List.mem_of_getElem? hx)
      have HAP := Lib.hid (show applyH xs (x :: hs.drop (k + 1)) done out k = R by rw [← drop_consP hx]; exact hap.out)
      obtain ⟨at_, del, to_, add, ls⟩ := x
      simp only at c0 c1 c2 c3 hrd
      obtain ⟨Al, cl, rfl⟩ := hrd.form
      have HC := Lib.hid (fun (w' : World) (hb' : Below w.heap.size w w') => And.intro ((hb'.cell (World.block_lt_of_cell? _ _ c0)).trans c0) (And.intro ((hb'.cell (World.block_lt_of_cell? _ _ c1)).trans c1) (And.intro ((hb'.cell (World.block_lt_of_cell? _ _ c2)).trans c2) (And.intro ((hb'.cell (World.block_lt_of_cell? _ _ c3)).trans c3) ((hb'.cell (World.block_lt_of_cell? _ _ c4)).trans c4)))))
      clear c0 c1 c2 c3 c4
      obtain ⟨c0, c1, c2, c3, c4⟩ := HC.out wo HBo.out
      have WR := Lib.hid (refHunk_any wo (.slice B xs.length d) (.slice Al ls.length cl) xs at_ del to_ add ls done out.length (HA.out.below HBo.out) (hrd.below HBo.out) lx (by have := hxo.l; simp only at this; omega) hxo.a1 hxo.a2 hxo.t1 hxo.t2 (by omega) (by omega))
      have HRD := Lib.hid hrd
      have hlc := hrd.len.2.1
      have hlm : cl ≤ 9223372036854775807 := by have := hrd.len.2.2; unfold maxLen at this; omega
      have HXO := Lib.hid hxo
      have ol9 : (out.length : Int) ≤ 1000000 := by omega
      have ol0 : (0 : Int) ≤ (out.length : Int) := by omega
      have dn9 : (done : Int) ≤ 1000000 := by omega
      clear hx hxo hrd hap
      go_wp2_with fail
      refine WR.out.mono ?_
      rintro e w2 ⟨rfl, b2⟩
      have HB2 := Lib.hid (hb.trans (b2.mono hb.size))
      have HO2 := Lib.hid (own2_keep HO.out b2)
      have HB2o := Lib.hid (HE1.out.trans (HB2.out.mono HE1.out.size))
      have KY2 := Lib.hid (KY.out.below HB2.out hYW)
      obtain ⟨c0', c1', _, _, c4'⟩ := HC.out w2 HB2o.out
      clear b2 WR c0 c1 c2 c3 c4
      by_cases hw0 : wrongH xs ⟨at_, del, to_, add, ls⟩ done out.length = 0
      · obtain ⟨z1, hdel, z3, hge, z5, z6, hfit, z8⟩ := wrongH_ok hw0
        clear z1 z3 z5 z6 z8
        simp only at hdel hge hfit
        obtain ⟨p, hp⟩ : ∃ p : Nat, at_ = (p : Int) := ⟨at_.toNat, by omega⟩
        obtain ⟨dl, hdl⟩ : ∃ dl, dl = dels ls := ⟨_, rfl⟩
        rw [← hdl] at hdel hfit
        subst hp
        subst hdel
        have hdp : done ≤ p := by omega
        have hpx : p + dl ≤ xs.length := by omega
        have HAP2 : Hid (applyH xs (hs.drop (k + 1)) (p + dl) (out ++ (cutL2 xs done p ++ newL ls)) (k + 1) = R) := Lib.hid (by
          rw [← HAP.out, applyH_cons, if_neg (by rw [hw0]; decide)]
          show _ = applyH xs (hs.drop (k + 1)) ((p : Int) + (dl : Int)).toNat (out ++ ((xs.drop done).take ((p : Int).toNat - done) ++ newL ls)) (k + 1)
          rw [Int.toNat_natCast, show ((p : Int) + (dl : Int)).toNat = p + dl by omega]
          rfl)
        have hnl := newL_le ls
        have hls := HXO.out.l
        simp only at hls
        have HCL := Lib.hid (show (cutL2 xs done p).length = p - done from cutL2_len _ (by omega))
        rw [hw0]
        have sK := Strs.piece (HA.out.below HB2o.out) hdp (show p ≤ xs.length by omega)
        obtain ⟨P, hP⟩ : ∃ P, (if d = done then B else Option.map (fun x => x.add done) B) = P := ⟨_, rfl⟩
        rw [hP] at sK
        have q1 : (done : Int) ≤ (p : Int) := by omega
        have q2 : (p : Int) ≤ (d : Int) := by omega
        have p0 : (0 : Int) ≤ (p : Int) := by omega
        have hwb := HB2.out.size
        clear hw0 hdl HAP hge hfit ol9 ol0 dn9
        go_wp2_with (at_builtin; refine wpList_append_strs rfl (.tmp 33) (.tmp 41) rfl W.heap.size _ out rfl HO2.out _ (cutL2 xs done p) sK rfl (by have := HCL.out; omega) hwb ?_; intro v8 w8 hown8 hg8 _; have HB8 := Lib.hid (HB2.out.grown hg8 hwb (fun z hz => (HO2.out.lt z hz).1)); have HO8 := Lib.hid hown8; clear hown8 hg8 c0' c1' c4')
        obtain ⟨pre, hpre⟩ : ∃ pre, pre = out ++ cutL2 xs done p := ⟨_, rfl⟩
        have hprl : pre.length ≤ 100000 := by rw [hpre, List.length_append, HCL.out]; omega
        have HO8p : Hid (w8.ownsRow W.heap.size 9 1 v8 pre.length (pre.map Value.string)) := Lib.hid (by rw [hpre]; exact HO8.out)
        have HPRE := Lib.hid hpre
        clear hpre HO8 sK hP
        obtain ⟨A8, c8, rfl⟩ := own_strs HO8p.out
        go_loopw [6, 10] (fun s6 s10 wq => ∃ j : Nat, j ≤ ls.length ∧ s10 = .int .i64 j ∧ wq.ownsRow W.heap.size 9 1 s6 (pre ++ newL (ls.take j)).length ((pre ++ newL (ls.take j)).map Value.string) ∧ Below W.heap.size W wq) (fun _ s10 _ => ls.length - (intOf s10).toNat)
        case atStart => exact ⟨0, Nat.zero_le _, rfl, by simpa [newL] using HO8p.out, HB8.out⟩
        case round =>
          obtain ⟨j, hj, rfl, hown, hbq⟩ := hrel
          have j0 : (0 : Int) ≤ (j : Int) := Int.natCast_nonneg _
          have hbw := HE1.out.trans (hbq.mono HE1.out.size)
          obtain ⟨c0, c1, _, _, c4⟩ := HC.out wr hbw
          by_cases hjl : j < ls.length
          · have j1 : (j : Int) < (ls.length : Int) := by omega
            obtain ⟨x, hx⟩ : ∃ x, ls[j]? = some x := ⟨_, List.getElem?_eq_getElem hjl⟩
            obtain ⟨ad2, rfl, x0, x1⟩ := Eds.at_ (HRD.out.below hbw) hx
            have TN := Lib.hid (newL_snoc (ls.take j) x)
            rw [← take_snocP hx] at TN
            obtain ⟨o, s⟩ := x
            have hnj := newL_le (ls.take j)
            have hnj2 := List.length_take_le j ls
            have hLL : (pre ++ newL (ls.take j)).length ≤ 300000 := by rw [List.length_append]; omega
            clear hx hnj hnj2
            generalize hL : pre ++ newL (ls.take j) = L at *
            have HLE := Lib.hid hL
            clear hL
            by_cases ho : o = 2
            · subst ho
              have HOE := Lib.hid hown
              have HBE := Lib.hid hbq
              clear hown
              go_wp2
              go_roundw
              case rel => exact ⟨j + 1, by omega, by go_num, by rw [TN.out, if_pos rfl, List.append_nil, HLE.out]; exact HOE.out, HBE.out⟩
              case measure => simp [intOf]; omega
            · have ho' : (o != 2) = true := by simpa using ho
              have ho'' : (o == 2) = false := by simpa using ho
              have HNO := Lib.hid ho
              have hown4 := hown.alloc (.cells #[.string s] 9)
              have hnews := World.news_of_block (cs := #[.string s]) (t := 9) (fr := (0, 0)) (heap_alloc_new wr (.cells #[.string s] 9))
              have hb4 := hbq.alloc hbq.size (.cells #[.string s] 9)
              have hsz4 := hb4.size
              clear ho
              go_wp2_with (at_builtin; refine wpList_append_own _ rfl _ _ 22 rfl W.heap.size 9 i0 (.string { data := #[] }) 1 16 Tryd.underlying22 hi hz0 hz1 hz2 rfl (by decide) _ _ _ rfl hown4 ⟨wr.heap.size, 0, none⟩ 1 1 [.string s] rfl rfl hnews (by simp [Value.oneCell']) (by unfold maxLen; omega) (by omega) hsz4 ?_; intro v5 w5 hown5 hg5 _)
              have hb5 : Below W.heap.size W w5 := hb4.grown hg5 hsz4 (fun z hz => (hown.lt z hz).1)
              clear hnews hown4 hg5 hb4
              go_roundw
              case rel => exact ⟨j + 1, by omega, by go_num, by rw [TN.out, if_neg HNO.out, ← List.append_assoc, HLE.out, List.length_append, List.map_append]; exact hown5, hb5⟩
              case measure => simp [intOf]; omega
          · obtain rfl : j = ls.length := by omega
            rw [List.take_length] at hown
            have HOW := Lib.hid hown
            have hsp : IntKind.i64.wrap ((p : Int) + (dl : Int)) = (p : Int) + (dl : Int) := IntWalk.i64_in _ (by omega)
            clear hown
            go_wp2_with fail
            go_quiet (fail)
            go_wp2
            go_roundw
            case rel => exact ⟨k + 1, p + dl, out ++ (cutL2 xs done p ++ newL ls), by omega, by go_num, by go_num, by rw [← List.append_assoc, ← HPRE.out]; exact HOW.out, HAP2, hpx, by rw [List.length_append, List.length_append, HCL.out]; omega, below_drewN hbq _⟩
            case measure => simp [intOf]; omega
      · have HRR : Hid (R = .inl (k, wrongH xs ⟨at_, del, to_, add, ls⟩ done out.length)) := Lib.hid (by rw [← HAP.out, applyH_cons, if_pos hw0])
        generalize wrongH xs ⟨at_, del, to_, add, ls⟩ done out.length = q at *
        have hq : (q != 0) = true := by simpa using hw0
        have hq' : (q == 0) = false := by simpa using hw0
        have AT := Lib.hid (refAt_gen bHunk (k : Int) q w2)
        clear hw0 HAP c0' c1' c4'
        go_wp2_with fail
        refine AT.out.mono ?_
        rintro e w3 ⟨g, rfl, hg, hge, b3⟩
        have KY3 := Lib.hid (KY2.out.below b3 KY2.out.lt)
        have HB3 := Lib.hid (HB2o.out.trans (b3.mono HB2o.out.size))
        have HG := Lib.hid hg
        have HYG := Lib.hid (KY3.out.ne_ hg (by decide))
        have y0 := KY3.out.cell 0
        have y1 := KY3.out.cell 1
        have f0 := KY3.out.frozen 0
        have f1 := KY3.out.frozen 1
        clear hg hge b3 AT
        go_wp2_with fail
        refine bodyPost_ret (results_tmp_row (fn := Tryd.f31) rfl _ _ Y 33 #[.slice (some ⟨g, 0, none⟩) 1 1, .int .i64 q] (0, 0) rfl (by first | exact (KY3.out.set_ 0 _).set_ 1 _ | simpa using (KY3.out.set_ 0 (.slice (some ⟨g, 0, none⟩) 1 1)).set_ 1 (.int .i64 q)) Tryd.underlying33 (by kernel_rfl)) rfl (.inr ⟨k, q, g, HRR.out, rfl, (HG.out.far (p := ⟨Y, 0, none⟩) (fun e => HYG.out e.symm) _).far (p := ⟨Y, 1, none⟩) (fun e => HYG.out e.symm) _, ?_⟩)
        first | exact ((HB3.out.setCell (p := ⟨Y, 0, none⟩) hYw.out _).setCell (p := ⟨Y, 1, none⟩) hYw.out _) | exact ((HB3.out.setCell (p := ⟨Y, 0, none⟩) hYw.out _).setCell (p := ⟨Y, 1, none⟩) hYw.out _).drew
    · obtain rfl : k = hs.length := by omega
      have hRR : R = .inr (out ++ xs.drop done) := by rw [← hap.out, List.drop_length]; rfl
      have HRR := Lib.hid hRR
      have sK := Strs.piece (HA.out.below HBo.out) hdone (Nat.le_refl xs.length)
      rw [show cutL2 xs done xs.length = xs.drop done by unfold cutL2; rw [List.take_of_length_le (by rw [List.length_drop]; omega)]] at sK
      obtain ⟨P, hP⟩ : ∃ P, (if d = done then B else Option.map (fun x => x.add done) B) = P := ⟨_, rfl⟩
      rw [hP] at sK
      have q1 : (done : Int) ≤ (xs.length : Int) := by omega
      have hwb := hb.size
      have HDL := Lib.hid (show (xs.drop done).length = xs.length - done from List.length_drop)
      clear hRR hap
      go_wp2_with (at_builtin; refine wpList_append_strs rfl (.tmp 86) (.tmp 89) rfl W.heap.size _ out rfl HO.out _ (xs.drop done) sK rfl (by have := HDL.out; omega) hwb ?_; intro v8 w8 hown8 hg8 _; have HB8 := Lib.hid (hb.grown hg8 hwb (fun z hz => (HO.out.lt z hz).1)); have HO8 := Lib.hid hown8; have KY8 := Lib.hid (KY.out.below HB8.out hYW); have y0 := KY8.out.cell 0; have y1 := KY8.out.cell 1; have f0 := KY8.out.frozen 0; have f1 := KY8.out.frozen 1; clear hown8 hg8)
      have HB9 := Lib.hid (HE1.out.trans (HB8.out.mono HE1.out.size))
      have HO9 := Lib.hid (own2_le ((HO8.out.kept (grown_cellL w8 Y 0 (.slice none 0 0)) (.inr (own_blk_ne HO8.out KY8.out (by decide)))).kept (grown_cellL (w8.setCell ⟨Y, 0, none⟩ (.slice none 0 0)) Y 1 (.int .i64 0)) (.inr (own_blk_ne HO8.out KY8.out (by decide)))) HE1.out.size)
      refine bodyPost_ret (results_tmp_row (fn := Tryd.f31) rfl _ _ Y 33 #[.slice none 0 0, .int .i64 0] (0, 0) rfl (by first | exact (KY8.out.set_ 0 _).set_ 1 _ | simpa using (KY8.out.set_ 0 (.slice none 0 0)).set_ 1 (.int .i64 0)) Tryd.underlying33 (by kernel_rfl)) rfl (.inl ⟨_, _, HRR.out, rfl, HO9.out, ?_⟩)
      first | exact ((HB9.out.setCell (p := ⟨Y, 0, none⟩) hYw.out _).setCell (p := ⟨Y, 1, none⟩) hYw.out _) | exact ((HB9.out.setCell (p := ⟨Y, 0, none⟩) hYw.out _).setCell (p := ⟨Y, 1, none⟩) hYw.out _).drew
end Go.Proofs.YtdpoeagmeiedcaaDoor
