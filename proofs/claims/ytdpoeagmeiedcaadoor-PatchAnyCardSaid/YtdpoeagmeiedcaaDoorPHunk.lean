/-
  rectoref11.hunk: the document's reason.
-/
import Derived.Test.YtdpoeagmeiedcaaDoorPWrong
namespace Go.Proofs.YtdpoeagmeiedcaaDoor
open Go Go.RowKit

set_option maxRecDepth 100000 in
set_option maxHeartbeats 8000000 in
theorem refHunk_any (w : World) (va vl : Value) (xs : List ByteArray) (at_ del to_ add : Int) (ls : List EdI) (done made : Int) (ha : Strs w va xs) (hl : Reads 2 cEd w vl ls) (lx : xs.length ≤ 1000) (ll : ls.length ≤ 1000)
    (b1 : -1099511627776 ≤ at_) (b2 : at_ ≤ 1099511627776) (b3 : -1099511627776 ≤ to_) (b4 : to_ ≤ 1099511627776) (b5 : 0 ≤ done) (b6 : done ≤ 1000000) :
    Calls Tryd.prog 58 #[va, .agg #[.int .i64 at_, .int .i64 del, .int .i64 to_, .int .i64 add, vl], .int .i64 done, .int .i64 (made - done)] w (WrongTo w (wrongH xs ⟨at_, del, to_, add, ls⟩ done made)) := by
  obtain ⟨A, c, rfl⟩ := hl.form
  obtain ⟨B, n, d, rfl⟩ := ha.form
  obtain rfl := ha.len.1
  have hxd := ha.len.2.1
  have hxm : d ≤ 9223372036854775807 := by have := ha.len.2.2; unfold maxLen at this; omega
  have hlc := hl.len.2.1
  have hlm : c ≤ 9223372036854775807 := by have := hl.len.2.2; unfold maxLen at this; omega
  have E1 := (Below.refl w.heap.size w).alloc (Nat.le_refl _) (.cells #[.int .i64 at_, .int .i64 del, .int .i64 to_, .int .i64 add, .slice A ls.length c] 114)
  have K1 := Lib.hid (Blk.new w 114 #[.int .i64 at_, .int .i64 del, .int .i64 to_, .int .i64 add, .slice A ls.length c])
  have HA := Lib.hid (ha.below E1)
  have HL := Lib.hid (hl.below E1)
  have HE1 := Lib.hid E1
  clear ha hl E1
  go_enter Tryd.func58, Tryd.ntmps58
  go_wp2_with fail
  generalize hW : w.alloc (.cells #[.int .i64 at_, .int .i64 del, .int .i64 to_, .int .i64 add, .slice A ls.length c] 114) = W at *
  clear hW
  obtain ⟨X, hX⟩ : ∃ X, X = w.heap.size := ⟨_, rfl⟩
  rw [← hX]
  rw [← hX] at K1
  clear hX
  have x4 := K1.out.cell 4
  go_wp2_with fail
  go_loopw [9, 10, 11] (fun s9 s10 s11 wr => ∃ k : Nat, k ≤ ls.length ∧ s11 = .int .i64 k ∧ s9 = .int .i64 (dels (ls.take k) : Int) ∧ s10 = .int .i64 (adds (ls.take k) : Int) ∧ Hid ((ls.take k).all okOp = true) ∧ wr = W) (fun _ _ s11 _ => ls.length - (intOf s11).toNat)
  case atStart => exact ⟨0, Nat.zero_le _, rfl, rfl, rfl, rfl, rfl⟩
  case round =>
    obtain ⟨k, hk, rfl, rfl, rfl, hok, rfl⟩ := hrel
    have k0 : (0 : Int) ≤ (k : Int) := Int.natCast_nonneg _
    have d1 : ((dels (ls.take k) : Nat) : Int) ≤ 1000 := by have := dels_le (ls.take k); have := List.length_take_le k ls; omega
    have d2 : ((adds (ls.take k) : Nat) : Int) ≤ 1000 := by have := adds_le (ls.take k); have := List.length_take_le k ls; omega
    have d3 : (0 : Int) ≤ ((dels (ls.take k) : Nat) : Int) := Int.natCast_nonneg _
    have d4 : (0 : Int) ≤ ((adds (ls.take k) : Nat) : Int) := Int.natCast_nonneg _
    by_cases hlt : k < ls.length
    · have k1 : (k : Int) < (ls.length : Int) := by omega
      obtain ⟨x, hx⟩ : ∃ x, ls[k]? = some x := ⟨_, List.getElem?_eq_getElem hlt⟩
      obtain ⟨ad, rfl, c0, c1⟩ := Eds.at_ HL.out hx
      have T1 := Lib.hid (dels_snoc (ls.take k) x)
      have T2 := Lib.hid (adds_snoc (ls.take k) x)
      rw [← take_snocP hx] at T1 T2
      obtain ⟨o, s⟩ := x
      have HXk := Lib.hid hx
      clear hx
      generalize dels (ls.take k) = dl at *
      generalize adds (ls.take k) = al at *
      rcases op_cases o with rfl | rfl | rfl | ⟨n1, n2, n3⟩
      · go_wp2
        go_roundw
        case rel => exact ⟨k + 1, by omega, by go_num, by rw [T1.out]; simp [isDel], by rw [T2.out]; simp [isAdd], Lib.hid (by rw [take_snocP HXk.out, List.all_append, hok.out]; rfl), by trivial⟩
        case measure => simp [intOf]; omega
      · go_wp2
        go_roundw
        case rel => exact ⟨k + 1, by omega, by go_num, by rw [T1.out]; simp [isDel], by rw [T2.out]; simp [isAdd], Lib.hid (by rw [take_snocP HXk.out, List.all_append, hok.out]; rfl), by trivial⟩
        case measure => simp [intOf]; omega
      · go_wp2
        go_roundw
        case rel => exact ⟨k + 1, by omega, by go_num, by rw [T1.out]; simp [isDel], by rw [T2.out]; simp [isAdd], Lib.hid (by rw [take_snocP HXk.out, List.all_append, hok.out]; rfl), by trivial⟩
        case measure => simp [intOf]; omega
      · have m1 : (o == 1) = false := by simpa using n1
        have m2 : (o == 2) = false := by simpa using n2
        have m3 : (o == 3) = false := by simpa using n3
        have HW : Hid (wrongH xs ⟨at_, del, to_, add, ls⟩ done made = 2) := Lib.hid (wrongH_form (by
          rw [List.all_eq_false]
          exact ⟨(o, s), List.mem_of_getElem? HXk.out, by simp [okOp, n1, n2, n3]⟩))
        clear n1 n2 n3
        go_wp2
        go_ret
        exact ⟨by rw [HW.out]; rfl, HE1.out⟩
    · obtain rfl : k = ls.length := by omega
      have hall : ls.all okOp = true := by have := hok.out; rwa [List.take_length] at this
      have HALL := Lib.hid hall
      rw [List.take_length] at d1 d2 d3 d4
      rw [List.take_length]
      have c0 := K1.out.cell 0
      have c1 := K1.out.cell 1
      have c2 := K1.out.cell 2
      have c3 := K1.out.cell 3
      have D0 := Lib.hid (show dels (ls.drop 0) = dels ls by rfl)
      clear hall hok
      obtain ⟨dl, hdl⟩ : ∃ dl, dl = dels ls := ⟨_, rfl⟩
      obtain ⟨al, hal⟩ : ∃ al, al = adds ls := ⟨_, rfl⟩
      rw [← hdl] at d1 d3
      rw [← hal] at d2 d4
      rw [← hdl, ← hal]
      have HDL := Lib.hid hdl
      have HAL := Lib.hid hal
      clear hdl hal
      by_cases e3 : at_ < done
      · have HW : Hid (wrongH xs ⟨at_, del, to_, add, ls⟩ done made = 1) := Lib.hid (wrongH_arg HALL.out (.inr (.inr (.inl e3))))
        go_wp2
        go_ret
        exact ⟨by rw [HW.out]; rfl, HE1.out⟩
      · by_cases e1 : del = (dl : Int)
        · have f1 : (del == (dl : Int)) = true := by simpa using e1
          have f1' : (del != (dl : Int)) = false := by simpa using e1
          by_cases e2 : add = (al : Int)
          · have f2 : (add == (al : Int)) = true := by simpa using e2
            have f2' : (add != (al : Int)) = false := by simpa using e2
            by_cases e5 : to_ - at_ = made - done
            · have f5 : (to_ - at_ == made - done) = true := by simpa using e5
              have f5' : (to_ - at_ != made - done) = false := by simpa using e5
              by_cases e4 : to_ < 0
              · have HW : Hid (wrongH xs ⟨at_, del, to_, add, ls⟩ done made = 1) := Lib.hid (wrongH_arg HALL.out (.inr (.inr (.inr (.inl e4)))))
                clear e1 e2 e5
                go_wp2
                go_ret
                exact ⟨by rw [HW.out]; rfl, HE1.out⟩
              · have HWR := Lib.hid (wrongH_rest (a := xs) (h := ⟨at_, del, to_, add, ls⟩) (done := done) (made := made) HALL.out (by rw [← HDL.out]; exact e1) (by rw [← HAL.out]; exact e2) (by show done ≤ at_; omega) (by show 0 ≤ to_; omega) (by show to_ = made + (at_ - done); omega))
                have at0 : 0 ≤ at_ := by omega
                obtain rfl : del = (dl : Int) := e1
                by_cases e6 : (xs.length : Int) - (dl : Int) < at_
                · have HW : Hid (wrongH xs ⟨at_, (dl : Int), to_, add, ls⟩ done made = 4) := Lib.hid (by rw [HWR.out, if_pos (by show (xs.length : Int) - dels ls < at_; rw [← HDL.out]; exact e6)])
                  clear e2 e5 HWR
                  by_cases e7 : (xs.length : Int) < at_
                  · go_wp2
                    go_ret
                    exact ⟨by rw [HW.out]; rfl, HE1.out⟩
                  · have e8 : (xs.length : Int) - at_ < (dl : Int) := by omega
                    go_wp2
                    go_ret
                    exact ⟨by rw [HW.out]; rfl, HE1.out⟩
                · have HW : Hid (wrongH xs ⟨at_, (dl : Int), to_, add, ls⟩ done made = if matchL xs at_.toNat ls = false then 9 else 0) := Lib.hid (by rw [HWR.out, if_neg (by show ¬ (xs.length : Int) - dels ls < at_; rw [← HDL.out]; exact e6)])
                  have e7 : ¬ (xs.length : Int) < at_ := by omega
                  have e8 : ¬ (xs.length : Int) - at_ < (dl : Int) := by omega
                  obtain ⟨p0, hp0⟩ : ∃ p0 : Nat, at_ = (p0 : Int) := ⟨at_.toNat, by omega⟩
                  subst hp0
                  rw [Int.toNat_natCast] at HW
                  have HF := Lib.hid (show p0 + dl ≤ xs.length by omega)
                  clear e2 e5 HWR
                  go_wp2_with fail
                  go_loopw [12, 13] (fun s12 s13 wq => ∃ k p q : Nat, k ≤ ls.length ∧ s13 = .int .i64 k ∧ s12 = .int .i64 p ∧ Hid (p + dels (ls.drop k) ≤ xs.length) ∧ Hid (matchL xs p (ls.drop k) = matchL xs p0 ls) ∧ wq = wr.drewN q) (fun _ s13 _ => ls.length - (intOf s13).toNat)
                  case atStart => exact ⟨0, p0, 0, Nat.zero_le _, rfl, rfl, Lib.hid (by rw [D0.out, ← HDL.out]; exact HF.out), rfl, rfl⟩
                  case round =>
                    obtain ⟨k, p, q, hk, rfl, rfl, hfit, hm, rfl⟩ := hrel
                    clear c0 c1 c2 c3 f1 f1' f2 f2' f5 f5' e3 e4 e6 e7 e8 at0 d1 d2 d3 d4
                    have k0 : (0 : Int) ≤ (k : Int) := Int.natCast_nonneg _
                    have p0' : (0 : Int) ≤ (p : Int) := Int.natCast_nonneg _
                    have p1' : (p : Int) ≤ 1000 := by have := hfit.out; omega
                    by_cases hlt : k < ls.length
                    · have k1 : (k : Int) < (ls.length : Int) := by omega
                      obtain ⟨x, hx⟩ : ∃ x, ls[k]? = some x := ⟨_, List.getElem?_eq_getElem hlt⟩
                      obtain ⟨ad, rfl, c0, c1⟩ := Eds.at_ HL.out hx
                      have hox := okOp_cases (List.all_eq_true.1 HALL.out x (List.mem_of_getElem? hx))
                      obtain ⟨o, s⟩ := x
                      have HDD := Lib.hid (dels_drop hx)
                      rcases hox with h3 | ⟨h3, hd⟩
                      · obtain rfl : o = 3 := h3
                        have HM := Lib.hid (matchL_add (a := xs) (p := p) hx)
                        have HFT := Lib.hid (show p + dels (ls.drop (k + 1)) ≤ xs.length by have h1 := HDD.out; have h2 := hfit.out; rw [h1] at h2; omega)
                        clear hx
                        go_wp2
                        go_roundw
                        case rel => exact ⟨k + 1, p, _, by omega, by go_num, rfl, HFT, Lib.hid (by rw [← HM.out]; exact hm.out), rfl⟩
                        case measure => simp [intOf]; omega
                      · have HM := Lib.hid (matchL_other (a := xs) (p := p) hx h3)
                        have hplt : p < xs.length ∧ p + 1 + dels (ls.drop (k + 1)) ≤ xs.length := by have h1 := HDD.out; have h2 := hfit.out; rw [h1, if_pos hd] at h2; omega
                        have hp1 : (p : Int) < (xs.length : Int) := by omega
                        obtain ⟨ad2, t, rfl, ht, c2⟩ := HA.out.cell (k := p) hplt.1
                        have HT := Lib.hid ht
                        have hcl2 := World.block_lt_of_cell? _ _ c2
                        have HFT := Lib.hid hplt.2
                        have q3 : (o == 3) = false := by simpa using h3
                        have q3' : (o != 3) = true := by simpa using h3
                        have hs : (t.toList == s.toList) = decide (t = s) := by
                          rw [ByteArray.toList_eq, ByteArray.toList_eq]
                          by_cases e : t = s
                          · simp [e]
                          · simp [e]
                            intro h
                            exact e (ByteArray.ext h)
                        clear hx ht hplt h3 hd
                        by_cases hts : t = s
                        · subst hts
                          clear hs
                          go_wp2_with fail
                          go_quiet (fail)
                          go_wp2
                          go_roundw
                          case rel => exact ⟨k + 1, p + 1, _, by omega, by go_num, by go_num, HFT, Lib.hid (by have h1 := HM.out; rw [HT.out, decide_eq_true rfl, Bool.true_and] at h1; rw [← h1]; exact hm.out), rfl⟩
                          case measure => simp [intOf]; omega
                        · rw [decide_eq_false hts] at hs
                          have HN : Hid (matchL xs p0 ls = false) := Lib.hid (by rw [← hm.out, HM.out, HT.out, decide_eq_false (by intro h; exact hts (Option.some.inj h)), Bool.false_and])
                          clear hts
                          go_wp2_with fail
                          go_quiet (fail)
                          go_wp2
                          go_ret
                          exact ⟨by rw [HW.out, HN.out]; rfl, below_drewN (below_drewN HE1.out _) _⟩
                    · obtain rfl : k = ls.length := by omega
                      have HN : Hid (matchL xs p0 ls = true) := Lib.hid (by rw [← hm.out, List.drop_length]; rfl)
                      go_wp2
                      go_ret
                      exact ⟨by rw [HW.out, HN.out]; rfl, below_drewN HE1.out _⟩
            · have f5 : (to_ - at_ == made - done) = false := by simpa using e5
              have f5' : (to_ - at_ != made - done) = true := by simpa using e5
              have HW : Hid (wrongH xs ⟨at_, del, to_, add, ls⟩ done made = 1) := Lib.hid (wrongH_arg HALL.out (.inr (.inr (.inr (.inr (by show to_ ≠ made + (at_ - done); omega))))))
              clear e1 e2 e5
              go_wp2
              go_ret
              exact ⟨by rw [HW.out]; rfl, HE1.out⟩
          · have f2 : (add == (al : Int)) = false := by simpa using e2
            have f2' : (add != (al : Int)) = true := by simpa using e2
            have HW : Hid (wrongH xs ⟨at_, del, to_, add, ls⟩ done made = 1) := Lib.hid (wrongH_arg HALL.out (.inr (.inl (by show add ≠ adds ls; rw [← HAL.out]; exact e2))))
            clear e1 e2
            go_wp2
            go_ret
            exact ⟨by rw [HW.out]; rfl, HE1.out⟩
        · have f1 : (del == (dl : Int)) = false := by simpa using e1
          have f1' : (del != (dl : Int)) = true := by simpa using e1
          have HW : Hid (wrongH xs ⟨at_, del, to_, add, ls⟩ done made = 1) := Lib.hid (wrongH_arg HALL.out (.inl (by show del ≠ dels ls; rw [← HDL.out]; exact e1)))
          clear e1
          go_wp2
          go_ret
          exact ⟨by rw [HW.out]; rfl, HE1.out⟩
end Go.Proofs.YtdpoeagmeiedcaaDoor
