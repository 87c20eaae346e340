/-
  rectolaw14.RowDiffs: the difference of two trees, done file by file, makes the one of the other.
-/
import Derived.Test.YtplleaimmmanhaaDoorFKnW
import Derived.Test.YtplleaimmmanhaaDoorFFew
namespace Go.Proofs.YtplleaimmmanhaaDoor
open Go Go.RowKit

theorem Dels.at_ {w : World} {A : Option Addr} {n c : Nat} {l : List Dl} (h : Reads 2 cD w (.slice A n c) l) {i : Nat} {x : Dl} (hi : l[i]? = some x) :
    ∃ ad : Addr, A = some ad ∧ w.cell? (ad.add (i * 2)) = some (.string x.1) ∧ w.cell? ⟨(ad.add (i * 2)).block, (ad.add (i * 2)).off + 1, none⟩ = some (.string (whB x.2)) := by
  obtain ⟨ad, ha, hc⟩ := h.at_ hi
  exact ⟨ad, ha, hc 0 _ rfl, hc 1 _ rfl⟩
theorem done_mem {a b r : List Fl} {d : List Dl} (h : DoneTo a b r d) {x : Fl} (hx : x ∈ r) : x ∈ a ∨ x ∈ b := by
  have h1 := mem_getF h.1 hx
  rw [h.2 x.1] at h1
  by_cases hp : hasP (d.map (·.1)) x.1 = true
  · rw [if_pos hp] at h1; exact .inr (getF_mem h1)
  · rw [if_neg hp] at h1; exact .inl (getF_mem h1)
def SmallF (l : List Fl) : Prop := l.length ≤ 80 ∧ ∀ x ∈ l, x.1.size ≤ 100 ∧ x.2.2.size ≤ 5000
theorem SmallF.sized {l : List Fl} (h : SmallF l) : SizedD l := fun x hx => ⟨by have := (h.2 x hx).1; omega, by have := (h.2 x hx).2; omega⟩
theorem done_sized {a b r : List Fl} {d : List Dl} (h : DoneTo a b r d) (ha : SmallF a) (hb : SmallF b) : Sized r := fun x hx => by
  rcases done_mem h hx with h | h
  · exact (ha.sized x h).1
  · exact (hb.sized x h).1
theorem fileNeq (F : Nat) (w : World) : (binOp .neq 44 (.iface 71 (.pointer (some ⟨F, 0, none⟩))) .nilIface).run Tryd.prog w = .ok (.bool true) w := by kernel_rfl
theorem nilNeq (w : World) : (binOp .neq 44 .nilIface .nilIface).run Tryd.prog w = .ok (.bool false) w := by kernel_rfl
theorem fileEql (F : Nat) (w : World) : (binOp .eql 44 (.iface 71 (.pointer (some ⟨F, 0, none⟩))) .nilIface).run Tryd.prog w = .ok (.bool false) w := by kernel_rfl
theorem gotV_none : gotV none = .tuple #[.agg #[.string ⟨#[]⟩, .int .i64 0, .string ⟨#[]⟩], .bool false] := rfl
theorem gotV_some (a : ByteArray) (b : Int) (c : ByteArray) : gotV (some (a, b, c)) = .tuple #[.agg #[.string a, .int .i64 b, .string c], .bool true] := rfl
theorem diff_kinds {a b : List Fl} {x : Dl} (h : x ∈ diffF a b) : (x.2 = 68 ∧ getF b x.1 = none) ∨ (x.2 ≠ 68 ∧ ∃ f, getF b x.1 = some f ∧ (whB x.2).toList ≠ [68]) := by
  obtain ⟨h1, h2⟩ := diff_mem.1 h
  obtain ⟨p, n⟩ := x
  simp only at h1 h2 ⊢
  subst h1
  cases ha : getF a p with
  | none =>
    cases hb : getF b p with
    | none => rw [ha, hb] at h2; simp [unl] at h2
    | some f =>
      rw [show unl none (some f) = 65 from rfl]
      exact .inr ⟨by decide, f, rfl, by rw [ByteArray.toList_eq]; decide⟩
  | some g =>
    cases hb : getF b p with
    | none => exact .inl ⟨rfl, rfl⟩
    | some f =>
      rw [ha, hb] at h2
      have h77 : unl (some g) (some f) = 77 := by
        rcases unl_cases (some g) (some f) with h | h | h | h
        · exact absurd h h2
        · simp [unl] at h; split at h <;> cases h
        · simp [unl] at h; split at h <;> cases h
        · exact h
      exact .inr ⟨by rw [h77]; decide, f, rfl, by rw [h77, ByteArray.toList_eq]; decide⟩
theorem diff_len (a b : List Fl) : (diffF a b).length ≤ a.length + b.length := Nat.le_trans (diffOf_len _ _) (paths2_len a b)


set_option maxRecDepth 100000 in
set_option maxHeartbeats 8000000 in
theorem diffs_walk (w : World) (v u : Value) (a b : List Fl) (h : Reads 3 cF w v a) (g : Reads 3 cF w u b) :
    Calls Tryd.prog 5 #[v, u] w (YesTo w) := by
  have KN := Lib.hid (known_yes w)
  obtain ⟨A, c, rfl⟩ := h.form
  obtain ⟨A2, c2, rfl⟩ := g.form
  have HA := Lib.hid h
  have HB := Lib.hid g
  clear h g
  have q1 := fileNeq
  have q2 := nilNeq
  go_enter Tryd.func5, Tryd.ntmps5
  go_wp2_with fail
  refine KN.out.mono ?_
  rintro e w1 ⟨rfl, b1⟩
  have RA := Lib.hid (HA.out.below b1)
  have RB := Lib.hid (HB.out.below b1)
  have B1 := Lib.hid b1
  have FA := Lib.hid (fewF_any w1 _ a RA.out)
  clear KN HA HB b1
  go_wp2_with fail
  refine FA.out.mono ?_
  rintro e w2 ⟨ba, rfl, hba, qa, rfl⟩
  have HBA := Lib.hid hba
  clear hba FA
  cases ba with
  | false =>
    go_wp2_with fail
    go_ret
    exact ⟨rfl, below_drewN B1.out _⟩
  | true =>
    have SA := Lib.hid (show SmallF a from HBA.out rfl)
    have FB := Lib.hid (fewF_any (w1.drewN qa) _ b RB.out)
    clear HBA
    go_wp2_with fail
    refine FB.out.mono ?_
    rintro e w2 ⟨bb, rfl, hbb, qb, rfl⟩
    have HBB := Lib.hid hbb
    clear hbb FB
    cases bb with
    | false =>
      go_wp2_with fail
      go_ret
      exact ⟨rfl, below_drewN B1.out _⟩
    | true =>
      have SB := Lib.hid (show SmallF b from HBB.out rfl)
      clear HBB
      obtain ⟨w2, hw2⟩ : ∃ w2, w2 = (w1.drewN qa).drewN qb := ⟨_, rfl⟩
      have B2 := Lib.hid (show Below w.heap.size w w2 by rw [hw2]; exact below_drewN (below_drewN B1.out _) _)
      have RA2 := Lib.hid (show Reads 3 cF w2 (.slice A a.length c) a by rw [hw2]; exact RA.out)
      have RB2 := Lib.hid (show Reads 3 cF w2 (.slice A2 b.length c2) b by rw [hw2]; exact RB.out)
      rw [← hw2]
      clear hw2 RA RB B1
      have CA := Lib.hid (checkF_any w2 _ a RA2.out SA.out.sized (by have := SA.out.1; omega))
      go_wp2_with fail
      refine CA.out.mono ?_
      rintro e w3 h3
      rcases h3 with ⟨ho, rfl, b3⟩ | ⟨i, k, F, _, rfl, _, _, b3⟩
      · have RI := Lib.hid (chkF_rise ho)
        have RA3 := Lib.hid (RA2.out.below b3)
        have RB3 := Lib.hid (RB2.out.below b3)
        have B3 := Lib.hid (B2.out.trans (b3.mono B2.out.size))
        have CB := Lib.hid (checkF_any w3 _ b RB3.out SB.out.sized (by have := SB.out.1; omega))
        clear ho b3 CA RA2 RB2 B2
        go_wp2_with fail
        refine CB.out.mono ?_
        rintro e w4 h4
        rcases h4 with ⟨ho, rfl, b4⟩ | ⟨i, k, F, _, rfl, _, _, b4⟩
        · have RJ := Lib.hid (chkF_rise ho)
          have RA4 := Lib.hid (RA3.out.below b4)
          have RB4 := Lib.hid (RB3.out.below b4)
          have B4 := Lib.hid (B3.out.trans (b4.mono B3.out.size))
          have DF := Lib.hid (diff_any w4 _ _ a b RA4.out RB4.out RI.out RJ.out (by have := SA.out.1; omega) (by have := SB.out.1; omega))
          clear ho b4 CB RA3 RB3 B3
          have HDL := Lib.hid (diff_len a b)
          obtain ⟨d, hd⟩ : ∃ d, d = diffF a b := ⟨_, rfl⟩
          rw [← hd] at DF HDL
          have HD := Lib.hid hd
          clear hd
          go_wp2_with fail
          refine DF.out.mono ?_
          rintro e w5 ⟨v5, rfl, o5, b5⟩
          have RA5 := Lib.hid (RA4.out.below b5)
          have RB5 := Lib.hid (RB4.out.below b5)
          have B5 := Lib.hid (B4.out.trans (b5.mono B4.out.size))
          have RD := Lib.hid (Reads.of_own cD_len o5)
          obtain ⟨A5, c5, rfl⟩ := own_form o5
          have hdl : d.length ≤ 160 := by have := HDL.out; have := SA.out.1; have := SB.out.1; omega
          clear o5 b5 DF RA4 RB4 B4
          go_wp2_with fail
          go_loopw [6, 7, 8, 9] (fun s6 s7 _ _ wr => ∃ (i : Nat) (r : List Fl), i ≤ d.length ∧ s7 = .int .i64 i ∧ r.length ≤ 80 + i ∧ Hid (Reads 3 cF wr s6 r) ∧ Hid (DoneTo a b r (d.take i)) ∧ Below w5.heap.size w5 wr) (fun _ s7 _ _ _ => d.length - (intOf s7).toNat)
          case atStart => exact ⟨0, a, Nat.zero_le _, rfl, by have := SA.out.1; omega, RA5, Lib.hid (done_start RI.out), Below.refl _ _⟩
          case round =>
            obtain ⟨i, r, hi, rfl, hrl, RR, DT, hb⟩ := hrel
            have hbs := hb.size
            have HBR := Lib.hid hb
            obtain ⟨Ar, cr, rfl⟩ := RR.out.form
            by_cases hlt : i < d.length
            · obtain ⟨x, hx⟩ : ∃ x, d[i]? = some x := ⟨_, List.getElem?_eq_getElem hlt⟩
              obtain ⟨ad, rfl, c0, c1⟩ := Dels.at_ (RD.out.below hb) hx
              have HK := Lib.hid (diff_kinds (a := a) (b := b) (x := x) (by rw [← HD.out]; exact List.mem_of_getElem? hx))
              have HT := Lib.hid (take_snoc hx)
              obtain ⟨p, n⟩ := x
              have GB := Lib.hid (get_any wr _ b p (RB5.out.below hb) RJ.out (by have := SB.out.1; omega))
              have CU := Lib.hid fun W (hW : Below wr.heap.size wr W) => cut_any W _ r p (RR.out.below hW) (done_sized DT.out SA.out SB.out) (by omega)
              have PU := Lib.hid fun W (hW : Below wr.heap.size wr W) f => put_any W _ r f (RR.out.below hW) DT.out.1 (by omega)
              clear hx hb
              go_wp2_with fail
              refine GB.out.mono ?_
              rintro e w6 ⟨rfl, b6⟩
              rcases HK.out with ⟨hn, hg⟩ | ⟨hn, f, hg, hw⟩
              · have HG := Lib.hid hg
                have BA := Lib.hid (b6.alloc b6.size (.cells #[.string ⟨#[]⟩, .int .i64 0, .string ⟨#[]⟩] 42))
                have CU2 := Lib.hid (CU.out _ BA.out)
                have hq : ((whB n).toList == [68]) = true := by rw [hn, ByteArray.toList_eq]; decide
                have hq2 : (whB n).toList = [68] := by simpa using hq
                have e0 := cell_alloc_l (.cells #[.string ⟨#[]⟩, .int .i64 0, .string ⟨#[]⟩] 42) ((b6.cell (World.block_lt_of_cell? _ _ c0)).trans c0)
                have e1 := cell_alloc_l (.cells #[.string ⟨#[]⟩, .int .i64 0, .string ⟨#[]⟩] 42) ((b6.cell (World.block_lt_of_cell? _ _ c1)).trans c1)
                rw [hg, gotV_none]
                clear hn hg c0 c1 b6 CU PU GB
                go_wp2_with fail
                refine CU2.out.mono ?_
                rintro e w7 ⟨v7, rfl, r7, b7⟩
                have R7 := Lib.hid r7
                have B7 := Lib.hid (HBR.out.trans ((BA.out.trans (b7.mono BA.out.size)).mono hbs))
                have hcl := cut_len r p
                clear r7 b7 CU2
                go_wp2_with fail
                go_roundw
                case rel => exact ⟨i + 1, cutF r p, by omega, by go_num, by omega, R7, Lib.hid (by rw [HT.out]; exact done_cut (x := (p, n)) DT.out HG.out), B7.out⟩
                case measure => simp [intOf]; omega
              · have HG := Lib.hid hg
                obtain ⟨f1, f2, f3⟩ := f
                have BA := Lib.hid (b6.alloc b6.size (.cells #[.string f1, .int .i64 f2, .string f3] 42))
                have PU2 := Lib.hid (PU.out _ BA.out (f1, f2, f3))
                have hq : ((whB n).toList == [68]) = false := by simpa using hw
                have e0 := cell_alloc_l (.cells #[.string f1, .int .i64 f2, .string f3] 42) ((b6.cell (World.block_lt_of_cell? _ _ c0)).trans c0)
                have e1 := cell_alloc_l (.cells #[.string f1, .int .i64 f2, .string f3] 42) ((b6.cell (World.block_lt_of_cell? _ _ c1)).trans c1)
                rw [hg, gotV_some]
                clear hn hg c0 c1 b6 CU PU GB
                go_wp2_with fail
                refine PU2.out.mono ?_
                rintro e w7 ⟨v7, rfl, o7, b7⟩
                have R7 := Lib.hid (Reads.of_own cF_len o7)
                have B7 := Lib.hid (HBR.out.trans ((BA.out.trans (b7.mono BA.out.size)).mono hbs))
                have hcl := put_len r (f1, f2, f3)
                clear o7 b7 PU2
                go_wp2_with fail
                go_roundw
                case rel => exact ⟨i + 1, putF r (f1, f2, f3), by omega, by go_num, by omega, R7, Lib.hid (by rw [HT.out]; exact done_put (x := (p, n)) DT.out HG.out), B7.out⟩
                case measure => simp [intOf]; omega
            · obtain rfl : i = d.length := by omega
              have HE := Lib.hid (done_end RJ.out (by have := DT.out; rw [List.take_length, HD.out] at this; exact this))
              have B6 := Lib.hid (B5.out.trans (hb.mono B5.out.size))
              have RA6 := Lib.hid (RA5.out.below hb)
              have RB6 := Lib.hid (RB5.out.below hb)
              have SM := Lib.hid (sameF_any wr _ _ r b RR.out RB6.out)
              rw [decide_eq_true HE.out] at SM
              have D1 := Lib.hid fun W (hW : Below wr.heap.size wr W) => diff_any W _ _ a a (RA6.out.below hW) (RA6.out.below hW) RI.out RI.out (by have := SA.out.1; omega) (by have := SA.out.1; omega)
              have D2 := Lib.hid fun W (hW : Below wr.heap.size wr W) => diff_any W _ _ b a (RB6.out.below hW) (RA6.out.below hW) RJ.out RI.out (by have := SB.out.1; omega) (by have := SA.out.1; omega)
              rw [(diff_none RI.out RI.out).2 rfl] at D1
              have HL2 : Hid ((diffF b a).length = d.length) := Lib.hid (by rw [diff_turn, ← HD.out])
              obtain ⟨d2, hd2⟩ : ∃ d2, d2 = diffF b a := ⟨_, rfl⟩
              rw [← hd2] at D2 HL2
              clear hd2 hb
              go_wp2_with fail
              refine SM.out.mono ?_
              rintro e w7 ⟨rfl, n7, rfl⟩
              have BQ := Lib.hid (below_drewN (Below.refl wr.heap.size wr) n7)
              go_wp2_with fail
              refine (D1.out _ BQ.out).mono ?_
              rintro e w8 ⟨v8, rfl, o8, b8⟩
              obtain ⟨A8, c8, rfl⟩ := own_form o8
              have B8 := Lib.hid (BQ.out.trans (b8.mono BQ.out.size))
              clear o8 b8 D1
              go_wp2_with fail
              refine (D2.out _ B8.out).mono ?_
              rintro e w9 ⟨v9, rfl, o9, b9⟩
              obtain ⟨A9, c9, rfl⟩ := own_form o9
              have B9 := Lib.hid (B6.out.trans ((B8.out.trans (b9.mono B8.out.size)).mono B6.out.size))
              have hlen2 : (d2.length : Int) = (d.length : Int) := by rw [HL2.out]
              clear o9 b9 D2
              go_wp2_with fail
              go_ret
              exact ⟨rfl, B9.out⟩
        · have B4 := Lib.hid (B3.out.trans (b4.mono B3.out.size))
          clear b4 CB RA3 RB3 B3
          go_wp2_with fail
          go_ret
          exact ⟨rfl, B4.out⟩
      · have B3 := Lib.hid (B2.out.trans (b3.mono B2.out.size))
        clear b3 CA RA2 RB2 B2
        go_wp2_with fail
        go_ret
        exact ⟨rfl, B3.out⟩
end Go.Proofs.YtplleaimmmanhaaDoor
