/-
  (patch.Hunk).wrong: why a hunk can't be done.
-/
import Derived.Test.YtdpoeagmeiedcaaDoorPCnt
namespace Go.Proofs.YtdpoeagmeiedcaaDoor
open Go Go.RowKit

theorem drop_consP {α : Type} {l : List α} {k : Nat} {x : α} (h : l[k]? = some x) : l.drop k = x :: l.drop (k + 1) := by
  obtain ⟨hk, rfl⟩ := List.getElem?_eq_some_iff.1 h
  exact List.drop_eq_getElem_cons hk
theorem matchL_add {a : List ByteArray} {p k : Nat} {l : List EdI} {s : ByteArray} (h : l[k]? = some (3, s)) : matchL a p (l.drop k) = matchL a p (l.drop (k + 1)) := by
  rw [drop_consP h]; simp [matchL]
theorem matchL_other {a : List ByteArray} {p k : Nat} {l : List EdI} {o : Int} {s : ByteArray} (h : l[k]? = some (o, s)) (ho : o ≠ 3) : matchL a p (l.drop k) = (decide (a[p]? = some s) && matchL a (p + 1) (l.drop (k + 1))) := by
  rw [drop_consP h, matchL, if_neg ho]
theorem dels_drop {k : Nat} {l : List EdI} {x : EdI} (h : l[k]? = some x) : dels (l.drop k) = (if isDel x then 1 else 0) + dels (l.drop (k + 1)) := by
  rw [drop_consP h]
  unfold dels
  by_cases hd : isDel x = true <;> simp [hd] <;> omega
theorem okOp_cases {e : EdI} (h : okOp e = true) : e.1 = 3 ∨ (e.1 ≠ 3 ∧ isDel e = true) := by
  unfold okOp at h; unfold isDel
  by_cases h3 : e.1 = 3
  · exact .inl h3
  · refine .inr ⟨h3, ?_⟩
    simp [h3] at h
    simpa using h
theorem okOp_of {o : Int} {s : ByteArray} (h : o = 1 ∨ o = 2 ∨ o = 3) : okOp (o, s) = true := by
  unfold okOp; rcases h with rfl | rfl | rfl <;> rfl
theorem wrongH_form {a : List ByteArray} {h : Hk} {done made : Int} (h0 : h.ls.all okOp = false) : wrongH a h done made = 2 := by unfold wrongH; rw [if_pos h0]
theorem wrongH_arg {a : List ByteArray} {h : Hk} {done made : Int} (h0 : h.ls.all okOp = true) (h1 : h.del ≠ dels h.ls ∨ h.add ≠ adds h.ls ∨ h.at_ < done ∨ h.to_ < 0 ∨ h.to_ ≠ made + (h.at_ - done)) : wrongH a h done made = 1 := by
  unfold wrongH; rw [if_neg (by simp [h0]), if_pos h1]
theorem wrongH_rest {a : List ByteArray} {h : Hk} {done made : Int} (h0 : h.ls.all okOp = true) (h1 : h.del = dels h.ls) (h2 : h.add = adds h.ls) (h3 : done ≤ h.at_) (h4 : 0 ≤ h.to_) (h5 : h.to_ = made + (h.at_ - done)) :
    wrongH a h done made = if (a.length : Int) - dels h.ls < h.at_ then 4 else if matchL a h.at_.toNat h.ls = false then 9 else 0 := by
  unfold wrongH; rw [if_neg (by simp [h0]), if_neg (by omega)]
def WrongTo (w : World) (n : Int) (e : Ending) (w' : World) : Prop := e = .returned (.int .i64 n) ∧ Below w.heap.size w w'

set_option maxRecDepth 100000 in
set_option maxHeartbeats 8000000 in
theorem wrong_any (w : World) (va vl : Value) (xs : List ByteArray) (at_ del to_ add : Int) (ls : List EdI) (done made : Int) (ha : Strs w va xs) (hl : Reads 2 cEd w vl ls) (lx : xs.length ≤ 1000) (ll : ls.length ≤ 1000)
    (b1 : -1099511627776 ≤ at_) (b2 : at_ ≤ 1099511627776) (b5 : 0 ≤ done) (b6 : done ≤ 1000000) (b7 : 0 ≤ made) (b8 : made ≤ 1000000) :
    Calls Tryd.prog 57 #[.agg #[.int .i64 at_, .int .i64 del, .int .i64 to_, .int .i64 add, vl], va, .int .i64 done, .int .i64 made] w (WrongTo w (wrongH xs ⟨at_, del, to_, add, ls⟩ done made)) := by
  obtain ⟨A, c, rfl⟩ := hl.form
  obtain ⟨B, n, d, rfl⟩ := ha.form
  obtain rfl := ha.len.1
  have hxd := ha.len.2.1
  have hxm : d ≤ 9223372036854775807 := by have := ha.len.2.2; unfold maxLen at this; omega
  have hlc := hl.len.2.1
  have hlm : c ≤ 9223372036854775807 := by have := hl.len.2.2; unfold maxLen at this; omega
  have E1 := (Below.refl w.heap.size w).alloc (Nat.le_refl _) (.cells #[.int .i64 at_, .int .i64 del, .int .i64 to_, .int .i64 add, .slice A ls.length c] 64)
  have K1 := Lib.hid (Blk.new w 64 #[.int .i64 at_, .int .i64 del, .int .i64 to_, .int .i64 add, .slice A ls.length c])
  have HA := Lib.hid (ha.below E1)
  have HL := Lib.hid (hl.below E1)
  have HE1 := Lib.hid E1
  clear ha hl E1
  go_enter Tryd.func57, Tryd.ntmps57
  go_wp2_with fail
  generalize hW : w.alloc (.cells #[.int .i64 at_, .int .i64 del, .int .i64 to_, .int .i64 add, .slice A ls.length c] 64) = W at *
  clear hW
  obtain ⟨X, hX⟩ : ∃ X, X = w.heap.size := ⟨_, rfl⟩
  rw [← hX]
  rw [← hX] at K1
  clear hX
  have c4 := K1.out.cell 4
  go_wp2_with fail
  go_loopw [19] (fun s19 wr => ∃ k : Nat, k ≤ ls.length ∧ s19 = .int .i64 k ∧ Hid ((ls.take k).all okOp = true) ∧ Below W.heap.size W wr) (fun s19 _ => ls.length - (intOf s19).toNat)
  case atStart => exact ⟨0, Nat.zero_le _, rfl, rfl, Below.refl _ _⟩
  case round =>
    obtain ⟨k, hk, rfl, hok, hb⟩ := hrel
    clear c4
    have k0 : (0 : Int) ≤ (k : Int) := Int.natCast_nonneg _
    by_cases hlt : k < ls.length
    · have k1 : (k : Int) < (ls.length : Int) := by omega
      obtain ⟨x, hx⟩ : ∃ x, ls[k]? = some x := ⟨_, List.getElem?_eq_getElem hlt⟩
      obtain ⟨ad, rfl, c0, c1⟩ := Eds.at_ (HL.out.below hb) hx
      obtain ⟨o, s⟩ := x
      have HXk := Lib.hid hx
      have hb2 := hb.alloc hb.size (.cells #[.int .i64 o, .string s] 66)
      clear hx
      rcases op_cases o with rfl | rfl | rfl | ⟨n1, n2, n3⟩
      · go_wp2
        go_roundw
        case rel => exact ⟨k + 1, by omega, by go_num, Lib.hid (by rw [take_snocP HXk.out, List.all_append, hok.out]; rfl), hb2⟩
        case measure => simp [intOf]; omega
      · go_wp2
        go_roundw
        case rel => exact ⟨k + 1, by omega, by go_num, Lib.hid (by rw [take_snocP HXk.out, List.all_append, hok.out]; rfl), hb2⟩
        case measure => simp [intOf]; omega
      · go_wp2
        go_roundw
        case rel => exact ⟨k + 1, by omega, by go_num, Lib.hid (by rw [take_snocP HXk.out, List.all_append, hok.out]; rfl), hb2⟩
        case measure => simp [intOf]; omega
      · have m1 : (o == 1) = false := by simpa using n1
        have m2 : (o == 2) = false := by simpa using n2
        have m3 : (o == 3) = false := by simpa using n3
        have m1' : (o != 1) = true := by simpa using n1
        have m2' : (o != 2) = true := by simpa using n2
        have m3' : (o != 3) = true := by simpa using n3
        have HW : Hid (wrongH xs ⟨at_, del, to_, add, ls⟩ done made = 2) := Lib.hid (wrongH_form (by
          rw [List.all_eq_false]
          exact ⟨(o, s), List.mem_of_getElem? HXk.out, by simp [okOp, n1, n2, n3]⟩))
        clear n1 n2 n3
        go_wp2
        go_ret
        exact ⟨by rw [HW.out]; rfl, HE1.out.trans (hb2.mono HE1.out.size)⟩
    · obtain rfl : k = ls.length := by omega
      have hall : ls.all okOp = true := by have := hok.out; rwa [List.take_length] at this
      have HALL := Lib.hid hall
      have K2 := Lib.hid (K1.out.below hb K1.out.lt)
      have CT := Lib.hid (count_any wr _ ls (HL.out.below hb) ll)
      have c4 := K2.out.cell 4
      clear hall hok
      go_wp2_with fail
      refine CT.out.mono ?_
      rintro e w2 ⟨rfl, d2⟩
      have hb2 := hb.trans (d2.mono hb.size)
      have K3 := Lib.hid (K2.out.below d2 K2.out.lt)
      have HD1 := dels_le ls
      have HD2 := adds_le ls
      have g0 : (0 : Int) ≤ ((dels ls : Nat) : Int) := Int.natCast_nonneg _
      have g1 : ((dels ls : Nat) : Int) ≤ 1000 := by omega
      have HB2 := Lib.hid hb2
      have D0 := Lib.hid (show dels (ls.drop 0) = dels ls by rfl)
      clear c4 CT K2 hb d2 hb2 HD1 HD2
      have c0 := K3.out.cell 0
      have c1 := K3.out.cell 1
      have c2 := K3.out.cell 2
      have c3 := K3.out.cell 3
      have c4 := K3.out.cell 4
      obtain ⟨dl, hdl⟩ : ∃ dl, dl = dels ls := ⟨_, rfl⟩
      obtain ⟨al, hal⟩ : ∃ al, al = adds ls := ⟨_, rfl⟩
      rw [← hdl, ← hal]
      rw [← hdl] at g0 g1
      have HDL := Lib.hid hdl
      have HAL := Lib.hid hal
      clear hdl hal
      by_cases e1 : del = (dl : Int)
      · have f1 : (del == (dl : Int)) = true := by simpa using e1
        have f1' : (del != (dl : Int)) = false := by simpa using e1
        by_cases e2 : add = (al : Int)
        · have f2 : (add == (al : Int)) = true := by simpa using e2
          have f2' : (add != (al : Int)) = false := by simpa using e2
          by_cases e3 : at_ < done
          · have HW : Hid (wrongH xs ⟨at_, del, to_, add, ls⟩ done made = 1) := Lib.hid (wrongH_arg HALL.out (.inr (.inr (.inl e3))))
            clear e1 e2
            go_wp2
            go_ret
            exact ⟨by rw [HW.out]; rfl, HE1.out.trans (HB2.out.mono HE1.out.size)⟩
          · by_cases e4 : to_ < 0
            · have HW : Hid (wrongH xs ⟨at_, del, to_, add, ls⟩ done made = 1) := Lib.hid (wrongH_arg HALL.out (.inr (.inr (.inr (.inl e4)))))
              clear e1 e2
              go_wp2
              go_ret
              exact ⟨by rw [HW.out]; rfl, HE1.out.trans (HB2.out.mono HE1.out.size)⟩
            · by_cases e5 : to_ = made + (at_ - done)
              · have f5 : (to_ == made + (at_ - done)) = true := by simpa using e5
                have f5' : (to_ != made + (at_ - done)) = false := by simpa using e5
                have HWR := Lib.hid (wrongH_rest (a := xs) (h := ⟨at_, del, to_, add, ls⟩) (done := done) (made := made) HALL.out (by rw [← HDL.out]; exact e1) (by rw [← HAL.out]; exact e2) (by show done ≤ at_; omega) (by show 0 ≤ to_; omega) e5)
                have at0 : 0 ≤ at_ := by omega
                by_cases e6 : (xs.length : Int) - (dl : Int) < at_
                · have e6' : (xs.length : Int) - del < at_ := by omega
                  have HW : Hid (wrongH xs ⟨at_, del, to_, add, ls⟩ done made = 4) := Lib.hid (by rw [HWR.out, if_pos (by show (xs.length : Int) - dels ls < at_; rw [← HDL.out]; exact e6)])
                  obtain rfl : del = (dl : Int) := e1
                  clear e2 e5 HWR
                  go_wp2
                  go_ret
                  exact ⟨by rw [HW.out]; rfl, HE1.out.trans (HB2.out.mono HE1.out.size)⟩
                · have e6' : ¬ (xs.length : Int) - del < at_ := by omega
                  have HW : Hid (wrongH xs ⟨at_, del, to_, add, ls⟩ done made = if matchL xs at_.toNat ls = false then 9 else 0) := Lib.hid (by rw [HWR.out, if_neg (by show ¬ (xs.length : Int) - dels ls < at_; rw [← HDL.out]; exact e6)])
                  obtain rfl : del = (dl : Int) := e1
                  obtain ⟨p0, hp0⟩ : ∃ p0 : Nat, at_ = (p0 : Int) := ⟨at_.toNat, by omega⟩
                  subst hp0
                  rw [Int.toNat_natCast] at HW
                  have HF := Lib.hid (show p0 + dl ≤ xs.length by omega)
                  have w2s := HB2.out.size
                  clear e2 e5 HWR
                  go_wp2_with fail
                  go_loopw [13, 88] (fun s13 s88 wr => ∃ k p : Nat, k ≤ ls.length ∧ s88 = .int .i64 k ∧ s13 = .int .i64 p ∧ Hid (p + dels (ls.drop k) ≤ xs.length) ∧ Hid (matchL xs p (ls.drop k) = matchL xs p0 ls) ∧ Below w2.heap.size w2 wr) (fun _ s88 _ => ls.length - (intOf s88).toNat)
                  case atStart => exact ⟨0, p0, Nat.zero_le _, rfl, rfl, Lib.hid (by rw [D0.out, ← HDL.out]; exact HF.out), rfl, Below.refl _ _⟩
                  case round =>
                    obtain ⟨k, p, hk, rfl, rfl, hfit, hm, hb⟩ := hrel
                    clear c0 c1 c2 c3 c4 f1 f1' f2 f2' f5 f5' e3 e4 e6 e6' at0
                    have k0 : (0 : Int) ≤ (k : Int) := Int.natCast_nonneg _
                    have p0' : (0 : Int) ≤ (p : Int) := Int.natCast_nonneg _
                    have p1' : (p : Int) ≤ 1000 := by have := hfit.out; omega
                    have HBX := Lib.hid (HB2.out.trans (hb.mono w2s))
                    by_cases hlt : k < ls.length
                    · have k1 : (k : Int) < (ls.length : Int) := by omega
                      obtain ⟨x, hx⟩ : ∃ x, ls[k]? = some x := ⟨_, List.getElem?_eq_getElem hlt⟩
                      obtain ⟨ad, rfl, c0, c1⟩ := Eds.at_ (HL.out.below HBX.out) hx
                      have hox := okOp_cases (List.all_eq_true.1 HALL.out x (List.mem_of_getElem? hx))
                      obtain ⟨o, s⟩ := x
                      have HDD := Lib.hid (dels_drop hx)
                      have hb2 := hb.alloc hb.size (.cells #[.int .i64 o, .string s] 66)
                      rcases hox with h3 | ⟨h3, hd⟩
                      · obtain rfl : o = 3 := h3
                        have HM := Lib.hid (matchL_add (a := xs) (p := p) hx)
                        have HFT := Lib.hid (show p + dels (ls.drop (k + 1)) ≤ xs.length by have h1 := HDD.out; have h2 := hfit.out; rw [h1] at h2; omega)
                        clear hx
                        go_wp2
                        go_roundw
                        case rel => exact ⟨k + 1, p, by omega, by go_num, rfl, HFT, Lib.hid (by rw [← HM.out]; exact hm.out), hb2⟩
                        case measure => simp [intOf]; omega
                      · have HM := Lib.hid (matchL_other (a := xs) (p := p) hx h3)
                        have hplt : p < xs.length ∧ p + 1 + dels (ls.drop (k + 1)) ≤ xs.length := by have h1 := HDD.out; have h2 := hfit.out; rw [h1, if_pos hd] at h2; omega
                        have hp1 : (p : Int) < (xs.length : Int) := by omega
                        obtain ⟨ad2, t, rfl, ht, c2⟩ := (HA.out.below HBX.out).cell (k := p) hplt.1
                        have HT := Lib.hid ht
                        have hcl2 := World.block_lt_of_cell? _ _ c2
                        have HFT := Lib.hid hplt.2
                        have q3 : (o == 3) = false := by simpa using h3
                        have q3' : (o != 3) = true := by simpa using h3
                        have hs : (t.toList == s.toList) = decide (t = s) := by
                          rw [ByteArray.toList_eq, ByteArray.toList_eq]
                          by_cases e : t = s
                          · simp [e]
                          · simp [e]
                            intro h
                            exact e (ByteArray.ext h)
                        clear hx ht hplt h3 hd
                        by_cases hts : t = s
                        · subst hts
                          clear hs
                          go_wp2_with fail
                          go_quiet (fail)
                          go_wp2
                          go_roundw
                          case rel => exact ⟨k + 1, p + 1, by omega, by go_num, by go_num, HFT, Lib.hid (by have h1 := HM.out; rw [HT.out, decide_eq_true rfl, Bool.true_and] at h1; rw [← h1]; exact hm.out), below_drewN hb2 _⟩
                          case measure => simp [intOf]; omega
                        · rw [decide_eq_false hts] at hs
                          have HN : Hid (matchL xs p0 ls = false) := Lib.hid (by rw [← hm.out, HM.out, HT.out, decide_eq_false (by intro h; exact hts (Option.some.inj h)), Bool.false_and])
                          clear hts
                          go_wp2_with fail
                          go_quiet (fail)
                          go_wp2
                          go_ret
                          exact ⟨by rw [HW.out, HN.out]; rfl, HE1.out.trans ((HB2.out.trans ((below_drewN hb2 _).mono w2s)).mono HE1.out.size)⟩
                    · obtain rfl : k = ls.length := by omega
                      have HN : Hid (matchL xs p0 ls = true) := Lib.hid (by rw [← hm.out, List.drop_length]; rfl)
                      go_wp2
                      go_ret
                      exact ⟨by rw [HW.out, HN.out]; rfl, HE1.out.trans (HBX.out.mono HE1.out.size)⟩
              · have f5 : (to_ == made + (at_ - done)) = false := by simpa using e5
                have f5' : (to_ != made + (at_ - done)) = true := by simpa using e5
                have HW : Hid (wrongH xs ⟨at_, del, to_, add, ls⟩ done made = 1) := Lib.hid (wrongH_arg HALL.out (.inr (.inr (.inr (.inr e5)))))
                clear e1 e2 e5
                go_wp2
                go_ret
                exact ⟨by rw [HW.out]; rfl, HE1.out.trans (HB2.out.mono HE1.out.size)⟩
        · have f2 : (add == (al : Int)) = false := by simpa using e2
          have f2' : (add != (al : Int)) = true := by simpa using e2
          have HW : Hid (wrongH xs ⟨at_, del, to_, add, ls⟩ done made = 1) := Lib.hid (wrongH_arg HALL.out (.inr (.inl (by show add ≠ adds ls; rw [← HAL.out]; exact e2))))
          clear e1 e2
          go_wp2
          go_ret
          exact ⟨by rw [HW.out]; rfl, HE1.out.trans (HB2.out.mono HE1.out.size)⟩
      · have f1 : (del == (dl : Int)) = false := by simpa using e1
        have f1' : (del != (dl : Int)) = true := by simpa using e1
        have HW : Hid (wrongH xs ⟨at_, del, to_, add, ls⟩ done made = 1) := Lib.hid (wrongH_arg HALL.out (.inl (by show del ≠ dels ls; rw [← HDL.out]; exact e1)))
        clear e1
        go_wp2
        go_ret
        exact ⟨by rw [HW.out]; rfl, HE1.out.trans (HB2.out.mono HE1.out.size)⟩
end Go.Proofs.YtdpoeagmeiedcaaDoor
