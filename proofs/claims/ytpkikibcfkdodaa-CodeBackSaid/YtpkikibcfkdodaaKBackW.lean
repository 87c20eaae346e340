/-
  The walk of CodeBack.
-/
import Derived.Test.YtpkikibcfkdodaaKBack
import Derived.Deep.DeepCutAuto
import Derived.Deep.CutBlock
import Derived.Deep.RegionHeld
import Derived.Deep.RegionHeld3
namespace Go.Proofs.Ytpkikibcfkdodaa
open Go Go.RowKit

abbrev YesB (w : World) (e : Ending) (w' : World) : Prop := e = .returned (.bool true) ∧ Below w.heap.size w w'

theorem conv_own {w : World} {B : Nat} {v : Value} {l : List UInt8} (h : BOwn w B v l) : (convert 22 9 v).run Try.prog w = .ok (.string ⟨l.toArray⟩) w := by
  rcases h.2 with ⟨rfl, h0⟩ | ⟨g, cap, cur, rfl, _⟩
  · obtain rfl := List.eq_nil_of_length_eq_zero h0
    rw [run_convert_bytes_string w 22 9 5 none 0 0 Try.underlying22 Try.underlying5 Try.underlying9]
    rfl
  · exact run_convert_bytes_back (P := Try.prog) w 22 9 5 ⟨g, 0, none⟩ cap l Try.underlying22 Try.underlying5 Try.underlying9 (fun j hj => by rw [Addr.add_lit, Nat.zero_add]; exact BOwn.cells h j _ (bc_at (List.getElem?_eq_getElem hj)))

set_option maxRecDepth 100000 in
set_option maxHeartbeats 8000000 in
theorem back_walk (w : World) (A : Option Addr) (c : Nat) (its : List It) (hn : its.length ≤ 60) (hc : its.length ≤ c) (hcx : c ≤ 9223372036854775807) (hI : Items w A its) :
    Calls Try.prog 6 #[.slice A its.length c] w (YesB w) := by
  have HI := Lib.hid hI
  have KN := Lib.hid (known_any w)
  clear hI
  go_enter Try.func6, Try.ntmps6
  go_wp2_with fail
  refine KN.out.mono ?_
  rintro e w1 ⟨rfl, B1⟩
  have hn1 : ¬ (60 : Int) < (its.length : Int) := by omega
  have E1 := encAt_new w1 w.heap.size B1.size
  have HB1 := Lib.hid (B1.alloc B1.size (.cells #[.slice none 0 0] 46))
  have HE1 := Lib.hid E1
  obtain ⟨E, hE⟩ : ∃ E, E = w1.heap.size := ⟨_, rfl⟩
  rw [← hE] at HE1
  have HEE := Lib.hid hE
  clear E1 B1 KN
  go_wp2_with fail
  rw [← HEE.out]
  clear hE
  go_loopw [4, 5] (fun s4 s5 wr => ∃ (k : Nat) (v : Value), s5 = .int .i64 k ∧ k ≤ its.length ∧ Both wr w.heap.size E v s4 (encAll (its.take k)) ∧ Below w.heap.size w wr ∧ Hid (Short (its.take k))) (fun _ s5 _ => its.length - (intOf s5).toNat)
  case atStart => exact ⟨0, _, rfl, Nat.zero_le _, ⟨HE1.out, World.ownsRow_nil _ _ _ _, .inl rfl⟩, HB1.out, Lib.hid (fun x hx => by simp at hx)⟩
  case round =>
    obtain ⟨k, v, rfl, hk, hBo, hB, hSh⟩ := hrel
    have k0 : (0 : Int) ≤ (k : Int) := Int.natCast_nonneg _
    have HBo := Lib.hid hBo
    have HB := Lib.hid hB
    clear hBo hB HE1 HB1
    by_cases hlt : k < its.length
    · have k1 : (k : Int) < (its.length : Int) := by omega
      obtain ⟨⟨bb, n, t⟩, hx⟩ : ∃ x, its[k]? = some x := ⟨_, List.getElem?_eq_getElem hlt⟩
      obtain ⟨ad, rfl, hnb, htm, x0, x1, x2⟩ := (HI.out.below HB.out) k _ hx
      simp only at hnb htm x0 x1 x2
      by_cases h300 : t.size ≤ 300
      · have t1 : ¬ (300 : Int) < (t.size : Int) := by omega
        have HS2 : Hid (Short (its.take (k + 1))) := Lib.hid (by
          intro y hy
          rw [List.take_succ_eq_append_getElem hlt] at hy
          rcases List.mem_append.1 hy with hy | hy
          · exact hSh.out y hy
          · rw [List.mem_singleton.1 hy, (List.getElem?_eq_some_iff.1 hx).2]; exact h300)
        have hlen : (encAll (its.take k)).length ≤ 60 * 310 := by
          have := encAll_len (its := its.take k) (fun y hy => by
            obtain ⟨i, hi⟩ := List.getElem?_of_mem (List.mem_of_mem_take hy)
            obtain ⟨_, _, h, _⟩ := HI.out i y hi
            exact h) hSh.out
          rw [List.length_take] at this
          omega
        have HT := Lib.hid (encAll_take hx)
        cases bb with
        | true =>
          have D := (Below.refl wr.heap.size wr).alloc (Nat.le_refl _) (.cells (strV [t]) 9)
          have hBw : w.heap.size ≤ wr.heap.size := HB.out.size
          have TX := Lib.hid (encText_any (wr.alloc (.cells (strV [t]) 9)) w.heap.size E wr.heap.size v (encAll (its.take k)) [t] (HBo.out.enc.below D) (Blk.new _ _ _) (fun y hy => by rw [List.mem_singleton.1 hy]; exact h300) (by omega) (by simp) (by simp; omega))
          have HD := Lib.hid D
          have HX := Lib.hid hx
          have HNB := Lib.hid hnb
          have HTM := Lib.hid htm
          clear D hx htm hnb
          go_wp2_with fail
          refine TX.out.mono ?_
          rintro e w2 ⟨rfl, hp⟩
          obtain ⟨v2, E2, O2, ap2, B2⟩ := (HBo.out.below HD.out).put hp
          have E2 : EncAt w2 w.heap.size E v2 (encAll (its.take k) ++ encT t) := by simpa [encTs] using E2
          have HB2 := Lib.hid ((HB.out.alloc hBw _).trans B2)
          have hBw2 : w.heap.size ≤ w2.heap.size := HB2.out.size
          obtain ⟨ad2, had, _, _, y0, y1, y2⟩ := (HI.out.below HB2.out) k _ HX.out
          obtain rfl : ad = ad2 := by injection had
          simp only at y0 y1 y2
          have hnb := HNB.out
          have RF := Lib.hid (refText_any w2 t (by omega))
          have HE2 := Lib.hid E2
          have HO2 := Lib.hid O2
          have HA2 := Lib.hid ap2
          obtain ⟨wA, wc, hwf⟩ := own_form O2
          clear hp E2 O2 ap2 B2 had x0 x1 x2 TX hnb
          go_wp2_with fail
          refine RF.out.mono ?_
          rintro e w3 ⟨v3, rfl, O3, B3⟩
          have hel := encIt_len (x := (true, n, t)) HNB.out h300
          have hep := encIt_pos (true, n, t)
          have hE3 := HE2.out.below B3
          have hO3 := own_keep HO2.out B3
          have HB3 := Lib.hid (HB2.out.trans (B3.mono HB2.out.size))
          obtain ⟨v4, w4, hr4, ho4, hg4, hs4⟩ := append_own w3 w.heap.size w2.heap.size u4 v3 (encAll (its.take k)) (encT t) hO3 O3 (by have : (encIt (true, n, t)).length = (encT t).length := rfl; omega) (by exact hep) HB3.out.size
          have hBo4 : Both w4 w.heap.size E v2 v4 (encAll (its.take (k + 1))) := by
            rw [HT.out]; exact Both.grow hE3 hO3 HA2.out ho4 hg4 hs4
          have HB4 := Lib.hid (HB3.out.grown hg4 HB3.out.size fun z hz => (hO3.lt z hz).1)
          obtain ⟨A3, n3, c3, rfl⟩ : ∃ A n c, v3 = .slice A n c := by obtain ⟨A, c, h⟩ := own_form O3; exact ⟨A, _, c, h⟩
          have HBo4 := Lib.hid hBo4
          have HR4 := Lib.hid hr4
          clear O3 B3 hE3 hO3 hr4 ho4 hg4 hs4 hBo4 hel hep RF
          subst hwf
          go_wp2_with (at_builtin; refine Lib.wpList_append_run _ rfl _ _ _ _ rfl _ _ rfl rfl _ _ (HR4.out _) ?_)
          go_roundw
          case rel => exact ⟨k + 1, v2, by go_num, hlt, HBo4.out, HB4.out, HS2⟩
          case measure => simp [intOf]; omega
        | false =>
          have D := (Below.refl wr.heap.size wr).alloc (Nat.le_refl _) (.cells (ints [n]) 3)
          have hBw : w.heap.size ≤ wr.heap.size := HB.out.size
          have TX := Lib.hid (encInt_any (wr.alloc (.cells (ints [n]) 3)) w.heap.size E wr.heap.size v (encAll (its.take k)) [n] (HBo.out.enc.below D) (Blk.new _ _ _) (fun y hy => by rw [List.mem_singleton.1 hy]; exact hnb) (by omega) (by simp) (by simp; omega))
          have HD := Lib.hid D
          have HX := Lib.hid hx
          have HNB := Lib.hid hnb
          have HTM := Lib.hid htm
          clear D hx htm hnb
          go_wp2_with fail
          refine TX.out.mono ?_
          rintro e w2 ⟨rfl, hp⟩
          obtain ⟨v2, E2, O2, ap2, B2⟩ := (HBo.out.below HD.out).put hp
          have E2 : EncAt w2 w.heap.size E v2 (encAll (its.take k) ++ encI n) := by simpa [encIs] using E2
          have HB2 := Lib.hid ((HB.out.alloc hBw _).trans B2)
          have hBw2 : w.heap.size ≤ w2.heap.size := HB2.out.size
          obtain ⟨ad2, had, _, _, y0, y1, y2⟩ := (HI.out.below HB2.out) k _ HX.out
          obtain rfl : ad = ad2 := by injection had
          simp only at y0 y1 y2
          have hnb := HNB.out
          have RF := Lib.hid (refInt_any w2 n hnb)
          have HE2 := Lib.hid E2
          have HO2 := Lib.hid O2
          have HA2 := Lib.hid ap2
          obtain ⟨wA, wc, hwf⟩ := own_form O2
          clear hp E2 O2 ap2 B2 had x0 x1 x2 TX hnb
          go_wp2_with fail
          refine RF.out.mono ?_
          rintro e w3 ⟨v3, rfl, O3, B3⟩
          have hel := encIt_len (x := (false, n, t)) HNB.out h300
          have hep := encIt_pos (false, n, t)
          have hE3 := HE2.out.below B3
          have hO3 := own_keep HO2.out B3
          have HB3 := Lib.hid (HB2.out.trans (B3.mono HB2.out.size))
          obtain ⟨v4, w4, hr4, ho4, hg4, hs4⟩ := append_own w3 w.heap.size w2.heap.size u4 v3 (encAll (its.take k)) (encI n) hO3 O3 (by have : (encIt (false, n, t)).length = (encI n).length := rfl; omega) (by exact hep) HB3.out.size
          have hBo4 : Both w4 w.heap.size E v2 v4 (encAll (its.take (k + 1))) := by
            rw [HT.out]; exact Both.grow hE3 hO3 HA2.out ho4 hg4 hs4
          have HB4 := Lib.hid (HB3.out.grown hg4 HB3.out.size fun z hz => (hO3.lt z hz).1)
          obtain ⟨A3, n3, c3, rfl⟩ : ∃ A n c, v3 = .slice A n c := by obtain ⟨A, c, h⟩ := own_form O3; exact ⟨A, _, c, h⟩
          have HBo4 := Lib.hid hBo4
          have HR4 := Lib.hid hr4
          clear O3 B3 hE3 hO3 hr4 ho4 hg4 hs4 hBo4 hel hep RF
          subst hwf
          go_wp2_with (at_builtin; refine Lib.wpList_append_run _ rfl _ _ _ _ rfl _ _ rfl rfl _ _ (HR4.out _) ?_)
          go_roundw
          case rel => exact ⟨k + 1, v2, by go_num, hlt, HBo4.out, HB4.out, HS2⟩
          case measure => simp [intOf]; omega
      · have t1 : (300 : Int) < (t.size : Int) := by omega
        go_wp2_with fail
        go_ret
        exact ⟨rfl, HB.out⟩
    · obtain rfl : k = its.length := by omega
      rw [List.take_length] at HBo hSh
      have hall : (encAll its).length ≤ 60 * 310 := by
        have := encAll_len (its := its) (fun y hy => by
          obtain ⟨i, hi⟩ := List.getElem?_of_mem hy
          obtain ⟨_, _, h, _⟩ := HI.out i y hi
          exact h) hSh.out
        omega
      have HSh := hSh
      generalize hLL : encAll its = L at *
      have HLL := Lib.hid hLL
      obtain ⟨wA, wcap, hwf⟩ := own_form HBo.out.own
      have BY := Lib.hid (bytes_any wr.drew _ _ _ _ (HBo.out.enc.below (Below.refl _ _).drew) (by omega))
      have C0 : (convert 22 9 u4).run Try.prog wr.drew = .ok (.string ⟨L.toArray⟩) wr.drew := conv_own (own_keep HBo.out.own (Below.refl _ _).drew)
      have HA := Lib.hid HBo.out.own
      have HSB := Lib.hid HB.out.size
      clear hLL hSh
      subst hwf
      go_upto_region 17 with (fail)
      go_cut [70] (fun s70 wx => s70 = .bool false ∧ BOwn wx w.heap.size (.slice wA L.length wcap) L ∧ Below w.heap.size w wx)
      case first =>
        go_region_with
          (go_at_call 22; refine BY.out.mono ?_; rintro e w5 ⟨v5, rfl, O5, B5⟩
           obtain ⟨A5, c5, rfl⟩ := own_form O5
           have C1 : (convert 22 9 (.slice A5 L.length c5)).run Try.prog w5 = .ok (.string ⟨L.toArray⟩) w5 := conv_own O5
           have O6 : BOwn w5 w.heap.size (.slice wA L.length wcap) L := own_keep (own_keep HA.out (Below.refl _ _).drew) B5
           have C2 : (convert 22 9 (.slice wA L.length wcap)).run Try.prog w5 = .ok (.string ⟨L.toArray⟩) w5 := conv_own O6
           have H6 := Lib.hid O6
           have HB6 := Lib.hid (HB.out.drew.trans (B5.mono HSB.out))
           clear O5 B5 O6)
        all_goals go_wp2_with fail
        all_goals go_meet
        all_goals (first | exact ⟨rfl, H6.out, HB6.out⟩ | exact ⟨by simp, H6.out, HB6.out⟩)
      obtain ⟨rfl, hO7, hB7⟩ := hcut
      have OF := Lib.hid (of_any _ _ _ _ hO7 (by omega))
      have HB7 := Lib.hid hB7
      clear hO7 hB7 C0 BY HA HBo HB HEE
      go_wp2_with fail
      refine OF.out.mono ?_
      rintro e w8 ⟨D, v8, rfl, D8, B8⟩
      have HB8 := Lib.hid (HB7.out.trans (B8.mono HB7.out.size))
      have hlo : Hid (w.heap.size ≤ D) := Lib.hid (Nat.le_trans HB7.out.size D8.lo)
      obtain ⟨b8, hb8⟩ : ∃ b8, b8 = wc.heap.size := ⟨_, rfl⟩
      rw [← hb8] at D8
      have HD8 := Lib.hid D8
      clear D8 B8 OF HB7 hb8
      go_wp2_with fail
      go_loopw [7] (fun s7 wr => ∃ (k at_ : Nat), s7 = .int .i64 k ∧ k ≤ its.length ∧ Hid (DecAt wr b8 D v8 L at_) ∧ Hid (L.drop at_ = encAll (its.drop k)) ∧ Hid (at_ ≤ L.length) ∧ Hid (Below w.heap.size w wr)) (fun s7 _ => its.length - (intOf s7).toNat)
      case atStart => exact ⟨0, 0, rfl, Nat.zero_le _, HD8, Lib.hid (by rw [List.drop_zero, List.drop_zero, HLL.out]), Lib.hid (Nat.zero_le _), HB8⟩
      case round =>
        clear HD8 HB8
        obtain ⟨k, at_, rfl, hk, HD, HL, HAT, HB⟩ := hrel
        have k0 : (0 : Int) ≤ (k : Int) := Int.natCast_nonneg _
        by_cases hlt : k < its.length
        · have k1 : (k : Int) < (its.length : Int) := by omega
          obtain ⟨⟨bb, n, t⟩, hx⟩ : ∃ x, its[k]? = some x := ⟨_, List.getElem?_eq_getElem hlt⟩
          obtain ⟨ad, rfl, hnb, htm, x0, x1, x2⟩ := (HI.out.below HB.out) k _ hx
          simp only at hnb htm x0 x1 x2
          have h300 : t.size ≤ 300 := HSh.out _ (List.mem_of_getElem? hx)
          have HED := Lib.hid (encAll_drop hx)
          have HX := Lib.hid hx
          cases bb with
          | true =>
            have hd1 : L.drop at_ = encT t ++ encAll (its.drop (k + 1)) := by rw [HL.out, HED.out]; rfl
            have DT := Lib.hid (decText_any wr.drew b8 D at_ v8 L _ t (HD.out.below (Below.refl _ _).drew) hd1 (by omega) (by omega))
            have hll := congrArg List.length hd1
            rw [List.length_drop, List.length_append] at hll
            have HL2 : Hid (L.drop (at_ + (encT t).length) = encAll (its.drop (k + 1))) := Lib.hid (by rw [← List.drop_drop, hd1]; exact List.drop_left)
            have HAT2 : Hid (at_ + (encT t).length ≤ L.length) := Lib.hid (by have := HAT.out; omega)
            have HNB := Lib.hid hnb
            have hsz : Hid (w.heap.size ≤ wr.drew.heap.size) := Lib.hid HB.out.size
            clear hd1 hll hx hnb htm h300
            go_upto_region 23 with (fail)
            go_cut [111] (fun s111 wx => s111 = .bool false ∧ Hid (DecAt wx b8 D v8 L (at_ + (encT t).length)) ∧ Hid (Below w.heap.size w wx))
            case first =>
              refine wp_region_held_drew (S := fun w' => w'.cell? (ad.add (k * 3)) = some (.bool true) ∧ w'.cell? ⟨(ad.add (k * 3)).block, (ad.add (k * 3)).off + 1, none⟩ = some (.int .i64 n) ∧ w'.cell? ⟨(ad.add (k * 3)).block, (ad.add (k * 3)).off + 2, none⟩ = some (.string t)) (by kernel_rfl) (⟨x0, x1, x2⟩) (fun hHeld => ?_)
              refine wpAnyH_take (i := 0) (oi := { dst := some 79, op := Op.move (Operand.tmp 0), type := 43, pos := "law.go:59", after := #[], guard := none }) (v := ?vt0) rfl (by kernel_rfl) (by kernel_rfl) (by kernel_rfl) (fun _ _ _ h => h) (Or.inl ⟨by rfl, ?yt0⟩) (by assumption) ?rt0
              case yt0 => (intro w' hSw; (try dsimp only at hSw); go_simp; try with_reducible rfl)
              try simp only [Act.put, List.setIfInBounds_toArray, List.set_cons_zero, List.set_cons_succ]
              refine wpAnyH_take (i := 1) (oi := { dst := some 80, op := Op.move (Operand.tmp 7), type := 3, pos := "law.go:59", after := #[], guard := none }) (v := ?vt1) rfl (by kernel_rfl) (by kernel_rfl) (by kernel_rfl) (fun _ _ _ h => h) (Or.inl ⟨by rfl, ?yt1⟩) (by assumption) ?rt1
              case yt1 => (intro w' hSw; (try dsimp only at hSw); go_simp; try with_reducible rfl)
              try simp only [Act.put, List.setIfInBounds_toArray, List.set_cons_zero, List.set_cons_succ]
              refine wpAnyH_take (i := 2) (oi := { dst := some 81, op := Op.indexAddr 43 (Operand.tmp 79) (Operand.tmp 80), type := 0, pos := "law.go:59", after := #[{ on := 0, ground := Ground.data }, { on := 1, ground := Ground.data }], guard := none }) (v := ?vt2) rfl (by kernel_rfl) (by kernel_rfl) (by kernel_rfl) (fun _ _ _ h => h) (Or.inl ⟨by rfl, ?yt2⟩) (by assumption) ?rt2
              case yt2 => (intro w' hSw; (try dsimp only at hSw); go_simp; try with_reducible rfl)
              try simp only [Act.put, List.setIfInBounds_toArray, List.set_cons_zero, List.set_cons_succ]
              refine wpAnyH_take (i := 3) (oi := { dst := some 82, op := Op.fieldAddr 48 (Operand.tmp 81) 0, type := 0, pos := "law.go:59", after := #[{ on := 2, ground := Ground.data }], guard := none }) (v := ?vt3) rfl (by kernel_rfl) (by kernel_rfl) (by kernel_rfl) (fun _ _ _ h => h) (Or.inl ⟨by rfl, ?yt3⟩) (by assumption) ?rt3
              case yt3 => (intro w' hSw; (try dsimp only at hSw); go_simp; try with_reducible rfl)
              try simp only [Act.put, List.setIfInBounds_toArray, List.set_cons_zero, List.set_cons_succ]
              refine wpAnyH_take (i := 4) (oi := { dst := some 83, op := Op.load 4 (Operand.tmp 82), type := 4, pos := "law.go:59", after := #[{ on := 3, ground := Ground.data }], guard := none }) (v := ?vt4) rfl (by kernel_rfl) (by kernel_rfl) (by kernel_rfl) (fun _ _ _ h => h) (Or.inl ⟨by rfl, ?yt4⟩) (by assumption) ?rt4
              case yt4 => (intro w' hSw; (try dsimp only at hSw); go_simp; try with_reducible rfl)
              try simp only [Act.put, List.setIfInBounds_toArray, List.set_cons_zero, List.set_cons_succ]
              refine wpAnyH_take (i := 5) (oi := { dst := some 84, op := Op.move (Operand.tmp 83), type := 4, pos := "law.go:59", after := #[{ on := 4, ground := Ground.data }], guard := none }) (v := ?vt5) rfl (by kernel_rfl) (by kernel_rfl) (by kernel_rfl) (fun _ _ _ h => h) (Or.inl ⟨by rfl, ?yt5⟩) (by assumption) ?rt5
              case yt5 => (intro w' hSw; (try dsimp only at hSw); go_simp; try with_reducible rfl)
              try simp only [Act.put, List.setIfInBounds_toArray, List.set_cons_zero, List.set_cons_succ]
              refine wpAnyH_take (i := 6) (oi := { dst := some 85, op := Op.move (Operand.tmp 6), type := 54, pos := "law.go:59", after := #[{ on := 5, ground := Ground.guard }], guard := some (5, true) }) (v := ?vt6) rfl (by kernel_rfl) (by kernel_rfl) (by kernel_rfl) (fun _ _ _ h => h) (Or.inl ⟨by rfl, ?yt6⟩) (by assumption) ?rt6
              case yt6 => (intro w' hSw; (try dsimp only at hSw); go_simp; try with_reducible rfl)
              try simp only [Act.put, List.setIfInBounds_toArray, List.set_cons_zero, List.set_cons_succ]
              refine wpAnyH_take (i := 8) (oi := { dst := some 87, op := Op.move (Operand.tmp 0), type := 43, pos := "law.go:59", after := #[{ on := 5, ground := Ground.guard }], guard := some (5, true) }) (v := ?vt8) rfl (by kernel_rfl) (by kernel_rfl) (by kernel_rfl) (fun _ _ _ h => h) (Or.inl ⟨by rfl, ?yt8⟩) (by assumption) ?rt8
              case yt8 => (intro w' hSw; (try dsimp only at hSw); go_simp; try with_reducible rfl)
              try simp only [Act.put, List.setIfInBounds_toArray, List.set_cons_zero, List.set_cons_succ]
              refine wpAnyH_take (i := 9) (oi := { dst := some 88, op := Op.move (Operand.tmp 7), type := 3, pos := "law.go:59", after := #[{ on := 5, ground := Ground.guard }], guard := some (5, true) }) (v := ?vt9) rfl (by kernel_rfl) (by kernel_rfl) (by kernel_rfl) (fun _ _ _ h => h) (Or.inl ⟨by rfl, ?yt9⟩) (by assumption) ?rt9
              case yt9 => (intro w' hSw; (try dsimp only at hSw); go_simp; try with_reducible rfl)
              try simp only [Act.put, List.setIfInBounds_toArray, List.set_cons_zero, List.set_cons_succ]
              refine wpAnyH_take (i := 10) (oi := { dst := some 89, op := Op.indexAddr 43 (Operand.tmp 87) (Operand.tmp 88), type := 0, pos := "law.go:59", after := #[{ on := 8, ground := Ground.data }, { on := 9, ground := Ground.data }, { on := 5, ground := Ground.guard }], guard := some (5, true) }) (v := ?vt10) rfl (by kernel_rfl) (by kernel_rfl) (by kernel_rfl) (fun _ _ _ h => h) (Or.inl ⟨by rfl, ?yt10⟩) (by assumption) ?rt10
              case yt10 => (intro w' hSw; (try dsimp only at hSw); go_simp; try with_reducible rfl)
              try simp only [Act.put, List.setIfInBounds_toArray, List.set_cons_zero, List.set_cons_succ]
              refine wpAnyH_take (i := 11) (oi := { dst := some 90, op := Op.fieldAddr 48 (Operand.tmp 89) 2, type := 0, pos := "law.go:59", after := #[{ on := 10, ground := Ground.data }, { on := 5, ground := Ground.guard }], guard := some (5, true) }) (v := ?vt11) rfl (by kernel_rfl) (by kernel_rfl) (by kernel_rfl) (fun _ _ _ h => h) (Or.inl ⟨by rfl, ?yt11⟩) (by assumption) ?rt11
              case yt11 => (intro w' hSw; (try dsimp only at hSw); go_simp; try with_reducible rfl)
              try simp only [Act.put, List.setIfInBounds_toArray, List.set_cons_zero, List.set_cons_succ]
              refine wpAnyH_take (i := 12) (oi := { dst := some 91, op := Op.load 9 (Operand.tmp 90), type := 9, pos := "law.go:59", after := #[{ on := 11, ground := Ground.data }, { on := 5, ground := Ground.guard }], guard := some (5, true) }) (v := ?vt12) rfl (by kernel_rfl) (by kernel_rfl) (by kernel_rfl) (fun _ _ _ h => h) (Or.inl ⟨by rfl, ?yt12⟩) (by assumption) ?rt12
              case yt12 => (intro w' hSw; (try dsimp only at hSw); go_simp; try with_reducible rfl)
              try simp only [Act.put, List.setIfInBounds_toArray, List.set_cons_zero, List.set_cons_succ]
              refine wpAnyH_ready (rs := [7]) (by kernel_rfl) (by simp) ?_
              refine AllReadyH.cons (o := { dst := some 86, op := Op.call { callee := Callee.value (Operand.func 24), args := #[Operand.tmp 85], argTypes := #[54] }, type := 9, pos := "law.go:59", after := #[{ on := 6, ground := Ground.data }, { on := 5, ground := Ground.chain }, { on := 5, ground := Ground.guard }], guard := some (5, true) }) rfl (fun K hK => ?_) AllReadyH.nil
              go_simp
              refine DT.out.mono ?_
              rintro e w5 ⟨rfl, D5, T5⟩
              have HB5 := Lib.hid (HB.out.drew.trans (T5.below hsz.out hlo.out (by simp)))
              obtain ⟨ad2, had, _, _, y0, y1, y2⟩ := (HI.out.below HB5.out) k _ HX.out
              obtain rfl : ad = ad2 := by injection had
              simp only at y0 y1 y2
              have HD5 := Lib.hid D5
              clear D5 T5 had
              go_wp2_with fail
              refine hK.out _ _ ⟨y0, y1, y2⟩ (fun hHeld2 => ?_)
              clear hK K hHeld
              try simp only [Act.put, List.setIfInBounds_toArray, List.set_cons_zero, List.set_cons_succ]
              refine wpAnyH_take (i := 13) (oi := { dst := some 92, op := Op.binOp BinOp.neq 9 (Operand.tmp 86) (Operand.tmp 91) 9, type := 4, pos := "law.go:59", after := #[{ on := 7, ground := Ground.data }, { on := 12, ground := Ground.data }, { on := 5, ground := Ground.guard }], guard := some (5, true) }) (v := ?vt13) rfl (by kernel_rfl) (by kernel_rfl) (by kernel_rfl) (fun _ _ _ h => h) (Or.inl ⟨by rfl, ?yt13⟩) (by assumption) ?rt13
              case yt13 => (intro w' hSw; (try dsimp only at hSw); go_simp; try with_reducible rfl)
              try simp only [Act.put, List.setIfInBounds_toArray, List.set_cons_zero, List.set_cons_succ]
              refine wpAnyH_take (i := 14) (oi := { dst := some 93, op := Op.pick (Operand.tmp 84) (Operand.tmp 92) (Operand.const (Value.bool false)), type := 4, pos := "law.go:59", after := #[{ on := 5, ground := Ground.data }, { on := 13, ground := Ground.data }], guard := none }) (v := ?vt14) rfl (by kernel_rfl) (by kernel_rfl) (by kernel_rfl) (fun _ _ _ h => h) (Or.inl ⟨by rfl, ?yt14⟩) (by assumption) ?rt14
              case yt14 => (intro w' hSw; (try dsimp only at hSw); go_simp; try with_reducible rfl)
              try simp only [Act.put, List.setIfInBounds_toArray, List.set_cons_zero, List.set_cons_succ]
              refine wpAnyH_take (i := 15) (oi := { dst := some 94, op := Op.move (Operand.tmp 93), type := 4, pos := "law.go:59", after := #[{ on := 14, ground := Ground.data }, { on := 7, ground := Ground.chain }], guard := none }) (v := ?vt15) rfl (by kernel_rfl) (by kernel_rfl) (by kernel_rfl) (fun _ _ _ h => h) (Or.inl ⟨by rfl, ?yt15⟩) (by assumption) ?rt15
              case yt15 => (intro w' hSw; (try dsimp only at hSw); go_simp; try with_reducible rfl)
              try simp only [Act.put, List.setIfInBounds_toArray, List.set_cons_zero, List.set_cons_succ]
              refine wpAnyH_take (i := 16) (oi := { dst := some 95, op := Op.move (Operand.tmp 0), type := 43, pos := "law.go:59", after := #[{ on := 15, ground := Ground.guard }], guard := some (15, false) }) (v := ?vt16) rfl (by kernel_rfl) (by kernel_rfl) (by kernel_rfl) (fun _ _ _ h => h) (Or.inl ⟨by rfl, ?yt16⟩) (by assumption) ?rt16
              case yt16 => (intro w' hSw; (try dsimp only at hSw); go_simp; try with_reducible rfl)
              try simp only [Act.put, List.setIfInBounds_toArray, List.set_cons_zero, List.set_cons_succ]
              refine wpAnyH_take (i := 17) (oi := { dst := some 96, op := Op.move (Operand.tmp 7), type := 3, pos := "law.go:59", after := #[{ on := 15, ground := Ground.guard }], guard := some (15, false) }) (v := ?vt17) rfl (by kernel_rfl) (by kernel_rfl) (by kernel_rfl) (fun _ _ _ h => h) (Or.inl ⟨by rfl, ?yt17⟩) (by assumption) ?rt17
              case yt17 => (intro w' hSw; (try dsimp only at hSw); go_simp; try with_reducible rfl)
              try simp only [Act.put, List.setIfInBounds_toArray, List.set_cons_zero, List.set_cons_succ]
              refine wpAnyH_take (i := 18) (oi := { dst := some 97, op := Op.indexAddr 43 (Operand.tmp 95) (Operand.tmp 96), type := 0, pos := "law.go:59", after := #[{ on := 16, ground := Ground.data }, { on := 17, ground := Ground.data }, { on := 15, ground := Ground.guard }], guard := some (15, false) }) (v := ?vt18) rfl (by kernel_rfl) (by kernel_rfl) (by kernel_rfl) (fun _ _ _ h => h) (Or.inl ⟨by rfl, ?yt18⟩) (by assumption) ?rt18
              case yt18 => (intro w' hSw; (try dsimp only at hSw); go_simp; try with_reducible rfl)
              try simp only [Act.put, List.setIfInBounds_toArray, List.set_cons_zero, List.set_cons_succ]
              refine wpAnyH_take (i := 19) (oi := { dst := some 98, op := Op.fieldAddr 48 (Operand.tmp 97) 0, type := 0, pos := "law.go:59", after := #[{ on := 18, ground := Ground.data }, { on := 15, ground := Ground.guard }], guard := some (15, false) }) (v := ?vt19) rfl (by kernel_rfl) (by kernel_rfl) (by kernel_rfl) (fun _ _ _ h => h) (Or.inl ⟨by rfl, ?yt19⟩) (by assumption) ?rt19
              case yt19 => (intro w' hSw; (try dsimp only at hSw); go_simp; try with_reducible rfl)
              try simp only [Act.put, List.setIfInBounds_toArray, List.set_cons_zero, List.set_cons_succ]
              refine wpAnyH_take (i := 20) (oi := { dst := some 99, op := Op.load 4 (Operand.tmp 98), type := 4, pos := "law.go:59", after := #[{ on := 19, ground := Ground.data }, { on := 15, ground := Ground.guard }], guard := some (15, false) }) (v := ?vt20) rfl (by kernel_rfl) (by kernel_rfl) (by kernel_rfl) (fun _ _ _ h => h) (Or.inl ⟨by rfl, ?yt20⟩) (by assumption) ?rt20
              case yt20 => (intro w' hSw; (try dsimp only at hSw); go_simp; try with_reducible rfl)
              try simp only [Act.put, List.setIfInBounds_toArray, List.set_cons_zero, List.set_cons_succ]
              refine wpAnyH_take (i := 21) (oi := { dst := some 100, op := Op.unOp UnOp.not 4 (Operand.tmp 99), type := 4, pos := "law.go:59", after := #[{ on := 20, ground := Ground.data }, { on := 15, ground := Ground.guard }], guard := some (15, false) }) (v := ?vt21) rfl (by kernel_rfl) (by kernel_rfl) (by kernel_rfl) (fun _ _ _ h => h) (Or.inl ⟨by rfl, ?yt21⟩) (by assumption) ?rt21
              case yt21 => (intro w' hSw; (try dsimp only at hSw); go_simp; try with_reducible rfl)
              try simp only [Act.put, List.setIfInBounds_toArray, List.set_cons_zero, List.set_cons_succ]
              refine wpAnyH_take (i := 22) (oi := { dst := some 101, op := Op.move (Operand.tmp 100), type := 4, pos := "law.go:59", after := #[{ on := 21, ground := Ground.data }, { on := 15, ground := Ground.chain }, { on := 15, ground := Ground.guard }], guard := some (15, false) }) (v := ?vt22) rfl (by kernel_rfl) (by kernel_rfl) (by kernel_rfl) (fun _ _ _ h => h) (Or.inl ⟨by rfl, ?yt22⟩) (by assumption) ?rt22
              case yt22 => (intro w' hSw; (try dsimp only at hSw); go_simp; try with_reducible rfl)
              try simp only [Act.put, List.setIfInBounds_toArray, List.set_cons_zero, List.set_cons_succ]
              refine wpAnyH_take (i := 23) (oi := { dst := some 102, op := Op.move (Operand.tmp 6), type := 54, pos := "law.go:59", after := #[{ on := 22, ground := Ground.guard }], guard := some (22, true) }) (v := undef) rfl (by kernel_rfl) (by kernel_rfl) (by kernel_rfl) (fun _ _ _ h => h) (Or.inr ⟨by rfl, rfl⟩) (by assumption) ?_
              try simp only [Act.put, List.setIfInBounds_toArray, List.set_cons_zero, List.set_cons_succ]
              refine wpAnyH_take (i := 24) (oi := { dst := some 103, op := Op.call { callee := Callee.value (Operand.func 25), args := #[Operand.tmp 102], argTypes := #[54] }, type := 3, pos := "law.go:59", after := #[{ on := 23, ground := Ground.data }, { on := 22, ground := Ground.chain }, { on := 22, ground := Ground.guard }], guard := some (22, true) }) (v := undef) rfl (by kernel_rfl) (by kernel_rfl) (by kernel_rfl) (fun _ _ _ h => h) (Or.inr ⟨by rfl, rfl⟩) (by assumption) ?_
              try simp only [Act.put, List.setIfInBounds_toArray, List.set_cons_zero, List.set_cons_succ]
              refine wpAnyH_take (i := 25) (oi := { dst := some 104, op := Op.move (Operand.tmp 0), type := 43, pos := "law.go:59", after := #[{ on := 22, ground := Ground.guard }], guard := some (22, true) }) (v := undef) rfl (by kernel_rfl) (by kernel_rfl) (by kernel_rfl) (fun _ _ _ h => h) (Or.inr ⟨by rfl, rfl⟩) (by assumption) ?_
              try simp only [Act.put, List.setIfInBounds_toArray, List.set_cons_zero, List.set_cons_succ]
              refine wpAnyH_take (i := 26) (oi := { dst := some 105, op := Op.move (Operand.tmp 7), type := 3, pos := "law.go:59", after := #[{ on := 22, ground := Ground.guard }], guard := some (22, true) }) (v := undef) rfl (by kernel_rfl) (by kernel_rfl) (by kernel_rfl) (fun _ _ _ h => h) (Or.inr ⟨by rfl, rfl⟩) (by assumption) ?_
              try simp only [Act.put, List.setIfInBounds_toArray, List.set_cons_zero, List.set_cons_succ]
              refine wpAnyH_take (i := 27) (oi := { dst := some 106, op := Op.indexAddr 43 (Operand.tmp 104) (Operand.tmp 105), type := 0, pos := "law.go:59", after := #[{ on := 25, ground := Ground.data }, { on := 26, ground := Ground.data }, { on := 22, ground := Ground.guard }], guard := some (22, true) }) (v := undef) rfl (by kernel_rfl) (by kernel_rfl) (by kernel_rfl) (fun _ _ _ h => h) (Or.inr ⟨by rfl, rfl⟩) (by assumption) ?_
              try simp only [Act.put, List.setIfInBounds_toArray, List.set_cons_zero, List.set_cons_succ]
              refine wpAnyH_take (i := 28) (oi := { dst := some 107, op := Op.fieldAddr 48 (Operand.tmp 106) 1, type := 0, pos := "law.go:59", after := #[{ on := 27, ground := Ground.data }, { on := 22, ground := Ground.guard }], guard := some (22, true) }) (v := undef) rfl (by kernel_rfl) (by kernel_rfl) (by kernel_rfl) (fun _ _ _ h => h) (Or.inr ⟨by rfl, rfl⟩) (by assumption) ?_
              try simp only [Act.put, List.setIfInBounds_toArray, List.set_cons_zero, List.set_cons_succ]
              refine wpAnyH_take (i := 29) (oi := { dst := some 108, op := Op.load 3 (Operand.tmp 107), type := 3, pos := "law.go:59", after := #[{ on := 28, ground := Ground.data }, { on := 22, ground := Ground.guard }], guard := some (22, true) }) (v := undef) rfl (by kernel_rfl) (by kernel_rfl) (by kernel_rfl) (fun _ _ _ h => h) (Or.inr ⟨by rfl, rfl⟩) (by assumption) ?_
              try simp only [Act.put, List.setIfInBounds_toArray, List.set_cons_zero, List.set_cons_succ]
              refine wpAnyH_take (i := 30) (oi := { dst := some 109, op := Op.binOp BinOp.neq 3 (Operand.tmp 103) (Operand.tmp 108) 3, type := 4, pos := "law.go:59", after := #[{ on := 24, ground := Ground.data }, { on := 29, ground := Ground.data }, { on := 22, ground := Ground.guard }], guard := some (22, true) }) (v := undef) rfl (by kernel_rfl) (by kernel_rfl) (by kernel_rfl) (fun _ _ _ h => h) (Or.inr ⟨by rfl, rfl⟩) (by assumption) ?_
              try simp only [Act.put, List.setIfInBounds_toArray, List.set_cons_zero, List.set_cons_succ]
              refine wpAnyH_take (i := 31) (oi := { dst := some 110, op := Op.pick (Operand.tmp 101) (Operand.tmp 109) (Operand.const (Value.bool false)), type := 4, pos := "law.go:59", after := #[{ on := 22, ground := Ground.data }, { on := 30, ground := Ground.data }, { on := 15, ground := Ground.guard }], guard := some (15, false) }) (v := ?vt31) rfl (by kernel_rfl) (by kernel_rfl) (by kernel_rfl) (fun _ _ _ h => h) (Or.inl ⟨by rfl, ?yt31⟩) (by assumption) ?rt31
              case yt31 => (intro w' hSw; (try dsimp only at hSw); go_simp; try with_reducible rfl)
              try simp only [Act.put, List.setIfInBounds_toArray, List.set_cons_zero, List.set_cons_succ]
              refine wpAnyH_take (i := 32) (oi := { dst := some 111, op := Op.pick (Operand.tmp 94) (Operand.const (Value.bool true)) (Operand.tmp 110), type := 4, pos := "law.go:59", after := #[{ on := 15, ground := Ground.data }, { on := 31, ground := Ground.data }], guard := none }) (v := ?vt32) rfl (by kernel_rfl) (by kernel_rfl) (by kernel_rfl) (fun _ _ _ h => h) (Or.inl ⟨by rfl, ?yt32⟩) (by assumption) ?rt32
              case yt32 => (intro w' hSw; (try dsimp only at hSw); go_simp; try with_reducible rfl)
              try simp only [Act.put, List.setIfInBounds_toArray, List.set_cons_zero, List.set_cons_succ]
              refine wpAnyH_done (by kernel_rfl) ?_ _
              go_wp2_with fail
              go_meet
              exact ⟨rfl, HD5, HB5⟩
            obtain ⟨rfl, HD9, HB9⟩ := hcut
            go_wp2_with fail
            go_roundw
            case rel => exact ⟨k + 1, _, by go_num, hlt, HD9, HL2, HAT2, HB9⟩
            case measure => simp [intOf]; omega
          | false =>
            have hd1 : L.drop at_ = encI n ++ encAll (its.drop (k + 1)) := by rw [HL.out, HED.out]; rfl
            have DT := Lib.hid (decInt_any wr.drew b8 D at_ v8 L _ n (HD.out.below (Below.refl _ _).drew) hd1 (by omega) hnb)
            have hll := congrArg List.length hd1
            rw [List.length_drop, List.length_append] at hll
            have HL2 : Hid (L.drop (at_ + (encI n).length) = encAll (its.drop (k + 1))) := Lib.hid (by rw [← List.drop_drop, hd1]; exact List.drop_left)
            have HAT2 : Hid (at_ + (encI n).length ≤ L.length) := Lib.hid (by have := HAT.out; omega)
            have HNB := Lib.hid hnb
            have hsz : Hid (w.heap.size ≤ wr.drew.heap.size) := Lib.hid HB.out.size
            clear hd1 hll hx hnb htm h300
            go_upto_region 23 with (fail)
            go_cut [111] (fun s111 wx => s111 = .bool false ∧ Hid (DecAt wx b8 D v8 L (at_ + (encI n).length)) ∧ Hid (Below w.heap.size w wx))
            case first =>
              refine wp_region_held_drew (S := fun w' => w'.cell? (ad.add (k * 3)) = some (.bool false) ∧ w'.cell? ⟨(ad.add (k * 3)).block, (ad.add (k * 3)).off + 1, none⟩ = some (.int .i64 n) ∧ w'.cell? ⟨(ad.add (k * 3)).block, (ad.add (k * 3)).off + 2, none⟩ = some (.string t)) (by kernel_rfl) (⟨x0, x1, x2⟩) (fun hHeld => ?_)
              refine wpAnyH_take (i := 0) (oi := { dst := some 79, op := Op.move (Operand.tmp 0), type := 43, pos := "law.go:59", after := #[], guard := none }) (v := ?vf0) rfl (by kernel_rfl) (by kernel_rfl) (by kernel_rfl) (fun _ _ _ h => h) (Or.inl ⟨by rfl, ?yf0⟩) (by assumption) ?rf0
              case yf0 => (intro w' hSw; (try dsimp only at hSw); go_simp; try with_reducible rfl)
              try simp only [Act.put, List.setIfInBounds_toArray, List.set_cons_zero, List.set_cons_succ]
              refine wpAnyH_take (i := 1) (oi := { dst := some 80, op := Op.move (Operand.tmp 7), type := 3, pos := "law.go:59", after := #[], guard := none }) (v := ?vf1) rfl (by kernel_rfl) (by kernel_rfl) (by kernel_rfl) (fun _ _ _ h => h) (Or.inl ⟨by rfl, ?yf1⟩) (by assumption) ?rf1
              case yf1 => (intro w' hSw; (try dsimp only at hSw); go_simp; try with_reducible rfl)
              try simp only [Act.put, List.setIfInBounds_toArray, List.set_cons_zero, List.set_cons_succ]
              refine wpAnyH_take (i := 2) (oi := { dst := some 81, op := Op.indexAddr 43 (Operand.tmp 79) (Operand.tmp 80), type := 0, pos := "law.go:59", after := #[{ on := 0, ground := Ground.data }, { on := 1, ground := Ground.data }], guard := none }) (v := ?vf2) rfl (by kernel_rfl) (by kernel_rfl) (by kernel_rfl) (fun _ _ _ h => h) (Or.inl ⟨by rfl, ?yf2⟩) (by assumption) ?rf2
              case yf2 => (intro w' hSw; (try dsimp only at hSw); go_simp; try with_reducible rfl)
              try simp only [Act.put, List.setIfInBounds_toArray, List.set_cons_zero, List.set_cons_succ]
              refine wpAnyH_take (i := 3) (oi := { dst := some 82, op := Op.fieldAddr 48 (Operand.tmp 81) 0, type := 0, pos := "law.go:59", after := #[{ on := 2, ground := Ground.data }], guard := none }) (v := ?vf3) rfl (by kernel_rfl) (by kernel_rfl) (by kernel_rfl) (fun _ _ _ h => h) (Or.inl ⟨by rfl, ?yf3⟩) (by assumption) ?rf3
              case yf3 => (intro w' hSw; (try dsimp only at hSw); go_simp; try with_reducible rfl)
              try simp only [Act.put, List.setIfInBounds_toArray, List.set_cons_zero, List.set_cons_succ]
              refine wpAnyH_take (i := 4) (oi := { dst := some 83, op := Op.load 4 (Operand.tmp 82), type := 4, pos := "law.go:59", after := #[{ on := 3, ground := Ground.data }], guard := none }) (v := ?vf4) rfl (by kernel_rfl) (by kernel_rfl) (by kernel_rfl) (fun _ _ _ h => h) (Or.inl ⟨by rfl, ?yf4⟩) (by assumption) ?rf4
              case yf4 => (intro w' hSw; (try dsimp only at hSw); go_simp; try with_reducible rfl)
              try simp only [Act.put, List.setIfInBounds_toArray, List.set_cons_zero, List.set_cons_succ]
              refine wpAnyH_take (i := 5) (oi := { dst := some 84, op := Op.move (Operand.tmp 83), type := 4, pos := "law.go:59", after := #[{ on := 4, ground := Ground.data }], guard := none }) (v := ?vf5) rfl (by kernel_rfl) (by kernel_rfl) (by kernel_rfl) (fun _ _ _ h => h) (Or.inl ⟨by rfl, ?yf5⟩) (by assumption) ?rf5
              case yf5 => (intro w' hSw; (try dsimp only at hSw); go_simp; try with_reducible rfl)
              try simp only [Act.put, List.setIfInBounds_toArray, List.set_cons_zero, List.set_cons_succ]
              refine wpAnyH_take (i := 6) (oi := { dst := some 85, op := Op.move (Operand.tmp 6), type := 54, pos := "law.go:59", after := #[{ on := 5, ground := Ground.guard }], guard := some (5, true) }) (v := undef) rfl (by kernel_rfl) (by kernel_rfl) (by kernel_rfl) (fun _ _ _ h => h) (Or.inr ⟨by rfl, rfl⟩) (by assumption) ?_
              try simp only [Act.put, List.setIfInBounds_toArray, List.set_cons_zero, List.set_cons_succ]
              refine wpAnyH_take (i := 7) (oi := { dst := some 86, op := Op.call { callee := Callee.value (Operand.func 24), args := #[Operand.tmp 85], argTypes := #[54] }, type := 9, pos := "law.go:59", after := #[{ on := 6, ground := Ground.data }, { on := 5, ground := Ground.chain }, { on := 5, ground := Ground.guard }], guard := some (5, true) }) (v := undef) rfl (by kernel_rfl) (by kernel_rfl) (by kernel_rfl) (fun _ _ _ h => h) (Or.inr ⟨by rfl, rfl⟩) (by assumption) ?_
              try simp only [Act.put, List.setIfInBounds_toArray, List.set_cons_zero, List.set_cons_succ]
              refine wpAnyH_take (i := 8) (oi := { dst := some 87, op := Op.move (Operand.tmp 0), type := 43, pos := "law.go:59", after := #[{ on := 5, ground := Ground.guard }], guard := some (5, true) }) (v := undef) rfl (by kernel_rfl) (by kernel_rfl) (by kernel_rfl) (fun _ _ _ h => h) (Or.inr ⟨by rfl, rfl⟩) (by assumption) ?_
              try simp only [Act.put, List.setIfInBounds_toArray, List.set_cons_zero, List.set_cons_succ]
              refine wpAnyH_take (i := 9) (oi := { dst := some 88, op := Op.move (Operand.tmp 7), type := 3, pos := "law.go:59", after := #[{ on := 5, ground := Ground.guard }], guard := some (5, true) }) (v := undef) rfl (by kernel_rfl) (by kernel_rfl) (by kernel_rfl) (fun _ _ _ h => h) (Or.inr ⟨by rfl, rfl⟩) (by assumption) ?_
              try simp only [Act.put, List.setIfInBounds_toArray, List.set_cons_zero, List.set_cons_succ]
              refine wpAnyH_take (i := 10) (oi := { dst := some 89, op := Op.indexAddr 43 (Operand.tmp 87) (Operand.tmp 88), type := 0, pos := "law.go:59", after := #[{ on := 8, ground := Ground.data }, { on := 9, ground := Ground.data }, { on := 5, ground := Ground.guard }], guard := some (5, true) }) (v := undef) rfl (by kernel_rfl) (by kernel_rfl) (by kernel_rfl) (fun _ _ _ h => h) (Or.inr ⟨by rfl, rfl⟩) (by assumption) ?_
              try simp only [Act.put, List.setIfInBounds_toArray, List.set_cons_zero, List.set_cons_succ]
              refine wpAnyH_take (i := 11) (oi := { dst := some 90, op := Op.fieldAddr 48 (Operand.tmp 89) 2, type := 0, pos := "law.go:59", after := #[{ on := 10, ground := Ground.data }, { on := 5, ground := Ground.guard }], guard := some (5, true) }) (v := undef) rfl (by kernel_rfl) (by kernel_rfl) (by kernel_rfl) (fun _ _ _ h => h) (Or.inr ⟨by rfl, rfl⟩) (by assumption) ?_
              try simp only [Act.put, List.setIfInBounds_toArray, List.set_cons_zero, List.set_cons_succ]
              refine wpAnyH_take (i := 12) (oi := { dst := some 91, op := Op.load 9 (Operand.tmp 90), type := 9, pos := "law.go:59", after := #[{ on := 11, ground := Ground.data }, { on := 5, ground := Ground.guard }], guard := some (5, true) }) (v := undef) rfl (by kernel_rfl) (by kernel_rfl) (by kernel_rfl) (fun _ _ _ h => h) (Or.inr ⟨by rfl, rfl⟩) (by assumption) ?_
              try simp only [Act.put, List.setIfInBounds_toArray, List.set_cons_zero, List.set_cons_succ]
              refine wpAnyH_take (i := 13) (oi := { dst := some 92, op := Op.binOp BinOp.neq 9 (Operand.tmp 86) (Operand.tmp 91) 9, type := 4, pos := "law.go:59", after := #[{ on := 7, ground := Ground.data }, { on := 12, ground := Ground.data }, { on := 5, ground := Ground.guard }], guard := some (5, true) }) (v := undef) rfl (by kernel_rfl) (by kernel_rfl) (by kernel_rfl) (fun _ _ _ h => h) (Or.inr ⟨by rfl, rfl⟩) (by assumption) ?_
              try simp only [Act.put, List.setIfInBounds_toArray, List.set_cons_zero, List.set_cons_succ]
              refine wpAnyH_take (i := 14) (oi := { dst := some 93, op := Op.pick (Operand.tmp 84) (Operand.tmp 92) (Operand.const (Value.bool false)), type := 4, pos := "law.go:59", after := #[{ on := 5, ground := Ground.data }, { on := 13, ground := Ground.data }], guard := none }) (v := ?vf14) rfl (by kernel_rfl) (by kernel_rfl) (by kernel_rfl) (fun _ _ _ h => h) (Or.inl ⟨by rfl, ?yf14⟩) (by assumption) ?rf14
              case yf14 => (intro w' hSw; (try dsimp only at hSw); go_simp; try with_reducible rfl)
              try simp only [Act.put, List.setIfInBounds_toArray, List.set_cons_zero, List.set_cons_succ]
              refine wpAnyH_take (i := 15) (oi := { dst := some 94, op := Op.move (Operand.tmp 93), type := 4, pos := "law.go:59", after := #[{ on := 14, ground := Ground.data }, { on := 7, ground := Ground.chain }], guard := none }) (v := ?vf15) rfl (by kernel_rfl) (by kernel_rfl) (by kernel_rfl) (fun _ _ _ h => h) (Or.inl ⟨by rfl, ?yf15⟩) (by assumption) ?rf15
              case yf15 => (intro w' hSw; (try dsimp only at hSw); go_simp; try with_reducible rfl)
              try simp only [Act.put, List.setIfInBounds_toArray, List.set_cons_zero, List.set_cons_succ]
              refine wpAnyH_take (i := 16) (oi := { dst := some 95, op := Op.move (Operand.tmp 0), type := 43, pos := "law.go:59", after := #[{ on := 15, ground := Ground.guard }], guard := some (15, false) }) (v := ?vf16) rfl (by kernel_rfl) (by kernel_rfl) (by kernel_rfl) (fun _ _ _ h => h) (Or.inl ⟨by rfl, ?yf16⟩) (by assumption) ?rf16
              case yf16 => (intro w' hSw; (try dsimp only at hSw); go_simp; try with_reducible rfl)
              try simp only [Act.put, List.setIfInBounds_toArray, List.set_cons_zero, List.set_cons_succ]
              refine wpAnyH_take (i := 17) (oi := { dst := some 96, op := Op.move (Operand.tmp 7), type := 3, pos := "law.go:59", after := #[{ on := 15, ground := Ground.guard }], guard := some (15, false) }) (v := ?vf17) rfl (by kernel_rfl) (by kernel_rfl) (by kernel_rfl) (fun _ _ _ h => h) (Or.inl ⟨by rfl, ?yf17⟩) (by assumption) ?rf17
              case yf17 => (intro w' hSw; (try dsimp only at hSw); go_simp; try with_reducible rfl)
              try simp only [Act.put, List.setIfInBounds_toArray, List.set_cons_zero, List.set_cons_succ]
              refine wpAnyH_take (i := 18) (oi := { dst := some 97, op := Op.indexAddr 43 (Operand.tmp 95) (Operand.tmp 96), type := 0, pos := "law.go:59", after := #[{ on := 16, ground := Ground.data }, { on := 17, ground := Ground.data }, { on := 15, ground := Ground.guard }], guard := some (15, false) }) (v := ?vf18) rfl (by kernel_rfl) (by kernel_rfl) (by kernel_rfl) (fun _ _ _ h => h) (Or.inl ⟨by rfl, ?yf18⟩) (by assumption) ?rf18
              case yf18 => (intro w' hSw; (try dsimp only at hSw); go_simp; try with_reducible rfl)
              try simp only [Act.put, List.setIfInBounds_toArray, List.set_cons_zero, List.set_cons_succ]
              refine wpAnyH_take (i := 19) (oi := { dst := some 98, op := Op.fieldAddr 48 (Operand.tmp 97) 0, type := 0, pos := "law.go:59", after := #[{ on := 18, ground := Ground.data }, { on := 15, ground := Ground.guard }], guard := some (15, false) }) (v := ?vf19) rfl (by kernel_rfl) (by kernel_rfl) (by kernel_rfl) (fun _ _ _ h => h) (Or.inl ⟨by rfl, ?yf19⟩) (by assumption) ?rf19
              case yf19 => (intro w' hSw; (try dsimp only at hSw); go_simp; try with_reducible rfl)
              try simp only [Act.put, List.setIfInBounds_toArray, List.set_cons_zero, List.set_cons_succ]
              refine wpAnyH_take (i := 20) (oi := { dst := some 99, op := Op.load 4 (Operand.tmp 98), type := 4, pos := "law.go:59", after := #[{ on := 19, ground := Ground.data }, { on := 15, ground := Ground.guard }], guard := some (15, false) }) (v := ?vf20) rfl (by kernel_rfl) (by kernel_rfl) (by kernel_rfl) (fun _ _ _ h => h) (Or.inl ⟨by rfl, ?yf20⟩) (by assumption) ?rf20
              case yf20 => (intro w' hSw; (try dsimp only at hSw); go_simp; try with_reducible rfl)
              try simp only [Act.put, List.setIfInBounds_toArray, List.set_cons_zero, List.set_cons_succ]
              refine wpAnyH_take (i := 21) (oi := { dst := some 100, op := Op.unOp UnOp.not 4 (Operand.tmp 99), type := 4, pos := "law.go:59", after := #[{ on := 20, ground := Ground.data }, { on := 15, ground := Ground.guard }], guard := some (15, false) }) (v := ?vf21) rfl (by kernel_rfl) (by kernel_rfl) (by kernel_rfl) (fun _ _ _ h => h) (Or.inl ⟨by rfl, ?yf21⟩) (by assumption) ?rf21
              case yf21 => (intro w' hSw; (try dsimp only at hSw); go_simp; try with_reducible rfl)
              try simp only [Act.put, List.setIfInBounds_toArray, List.set_cons_zero, List.set_cons_succ]
              refine wpAnyH_take (i := 22) (oi := { dst := some 101, op := Op.move (Operand.tmp 100), type := 4, pos := "law.go:59", after := #[{ on := 21, ground := Ground.data }, { on := 15, ground := Ground.chain }, { on := 15, ground := Ground.guard }], guard := some (15, false) }) (v := ?vf22) rfl (by kernel_rfl) (by kernel_rfl) (by kernel_rfl) (fun _ _ _ h => h) (Or.inl ⟨by rfl, ?yf22⟩) (by assumption) ?rf22
              case yf22 => (intro w' hSw; (try dsimp only at hSw); go_simp; try with_reducible rfl)
              try simp only [Act.put, List.setIfInBounds_toArray, List.set_cons_zero, List.set_cons_succ]
              refine wpAnyH_take (i := 23) (oi := { dst := some 102, op := Op.move (Operand.tmp 6), type := 54, pos := "law.go:59", after := #[{ on := 22, ground := Ground.guard }], guard := some (22, true) }) (v := ?vf23) rfl (by kernel_rfl) (by kernel_rfl) (by kernel_rfl) (fun _ _ _ h => h) (Or.inl ⟨by rfl, ?yf23⟩) (by assumption) ?rf23
              case yf23 => (intro w' hSw; (try dsimp only at hSw); go_simp; try with_reducible rfl)
              try simp only [Act.put, List.setIfInBounds_toArray, List.set_cons_zero, List.set_cons_succ]
              refine wpAnyH_take (i := 25) (oi := { dst := some 104, op := Op.move (Operand.tmp 0), type := 43, pos := "law.go:59", after := #[{ on := 22, ground := Ground.guard }], guard := some (22, true) }) (v := ?vf25) rfl (by kernel_rfl) (by kernel_rfl) (by kernel_rfl) (fun _ _ _ h => h) (Or.inl ⟨by rfl, ?yf25⟩) (by assumption) ?rf25
              case yf25 => (intro w' hSw; (try dsimp only at hSw); go_simp; try with_reducible rfl)
              try simp only [Act.put, List.setIfInBounds_toArray, List.set_cons_zero, List.set_cons_succ]
              refine wpAnyH_take (i := 26) (oi := { dst := some 105, op := Op.move (Operand.tmp 7), type := 3, pos := "law.go:59", after := #[{ on := 22, ground := Ground.guard }], guard := some (22, true) }) (v := ?vf26) rfl (by kernel_rfl) (by kernel_rfl) (by kernel_rfl) (fun _ _ _ h => h) (Or.inl ⟨by rfl, ?yf26⟩) (by assumption) ?rf26
              case yf26 => (intro w' hSw; (try dsimp only at hSw); go_simp; try with_reducible rfl)
              try simp only [Act.put, List.setIfInBounds_toArray, List.set_cons_zero, List.set_cons_succ]
              refine wpAnyH_take (i := 27) (oi := { dst := some 106, op := Op.indexAddr 43 (Operand.tmp 104) (Operand.tmp 105), type := 0, pos := "law.go:59", after := #[{ on := 25, ground := Ground.data }, { on := 26, ground := Ground.data }, { on := 22, ground := Ground.guard }], guard := some (22, true) }) (v := ?vf27) rfl (by kernel_rfl) (by kernel_rfl) (by kernel_rfl) (fun _ _ _ h => h) (Or.inl ⟨by rfl, ?yf27⟩) (by assumption) ?rf27
              case yf27 => (intro w' hSw; (try dsimp only at hSw); go_simp; try with_reducible rfl)
              try simp only [Act.put, List.setIfInBounds_toArray, List.set_cons_zero, List.set_cons_succ]
              refine wpAnyH_take (i := 28) (oi := { dst := some 107, op := Op.fieldAddr 48 (Operand.tmp 106) 1, type := 0, pos := "law.go:59", after := #[{ on := 27, ground := Ground.data }, { on := 22, ground := Ground.guard }], guard := some (22, true) }) (v := ?vf28) rfl (by kernel_rfl) (by kernel_rfl) (by kernel_rfl) (fun _ _ _ h => h) (Or.inl ⟨by rfl, ?yf28⟩) (by assumption) ?rf28
              case yf28 => (intro w' hSw; (try dsimp only at hSw); go_simp; try with_reducible rfl)
              try simp only [Act.put, List.setIfInBounds_toArray, List.set_cons_zero, List.set_cons_succ]
              refine wpAnyH_take (i := 29) (oi := { dst := some 108, op := Op.load 3 (Operand.tmp 107), type := 3, pos := "law.go:59", after := #[{ on := 28, ground := Ground.data }, { on := 22, ground := Ground.guard }], guard := some (22, true) }) (v := ?vf29) rfl (by kernel_rfl) (by kernel_rfl) (by kernel_rfl) (fun _ _ _ h => h) (Or.inl ⟨by rfl, ?yf29⟩) (by assumption) ?rf29
              case yf29 => (intro w' hSw; (try dsimp only at hSw); go_simp; try with_reducible rfl)
              try simp only [Act.put, List.setIfInBounds_toArray, List.set_cons_zero, List.set_cons_succ]
              refine wpAnyH_ready (rs := [24]) (by kernel_rfl) (by simp) ?_
              refine AllReadyH.cons (o := { dst := some 103, op := Op.call { callee := Callee.value (Operand.func 25), args := #[Operand.tmp 102], argTypes := #[54] }, type := 3, pos := "law.go:59", after := #[{ on := 23, ground := Ground.data }, { on := 22, ground := Ground.chain }, { on := 22, ground := Ground.guard }], guard := some (22, true) }) rfl (fun K hK => ?_) AllReadyH.nil
              go_simp
              refine DT.out.mono ?_
              rintro e w5 ⟨rfl, D5, T5⟩
              have HB5 := Lib.hid (HB.out.drew.trans (T5.below hsz.out hlo.out (by simp)))
              obtain ⟨ad2, had, _, _, y0, y1, y2⟩ := (HI.out.below HB5.out) k _ HX.out
              obtain rfl : ad = ad2 := by injection had
              simp only at y0 y1 y2
              have HD5 := Lib.hid D5
              clear D5 T5 had
              go_wp2_with fail
              refine hK.out _ _ ⟨y0, y1, y2⟩ (fun hHeld2 => ?_)
              clear hK K hHeld
              try simp only [Act.put, List.setIfInBounds_toArray, List.set_cons_zero, List.set_cons_succ]
              refine wpAnyH_take (i := 30) (oi := { dst := some 109, op := Op.binOp BinOp.neq 3 (Operand.tmp 103) (Operand.tmp 108) 3, type := 4, pos := "law.go:59", after := #[{ on := 24, ground := Ground.data }, { on := 29, ground := Ground.data }, { on := 22, ground := Ground.guard }], guard := some (22, true) }) (v := ?vf30) rfl (by kernel_rfl) (by kernel_rfl) (by kernel_rfl) (fun _ _ _ h => h) (Or.inl ⟨by rfl, ?yf30⟩) (by assumption) ?rf30
              case yf30 => (intro w' hSw; (try dsimp only at hSw); go_simp; try with_reducible rfl)
              try simp only [Act.put, List.setIfInBounds_toArray, List.set_cons_zero, List.set_cons_succ]
              refine wpAnyH_take (i := 31) (oi := { dst := some 110, op := Op.pick (Operand.tmp 101) (Operand.tmp 109) (Operand.const (Value.bool false)), type := 4, pos := "law.go:59", after := #[{ on := 22, ground := Ground.data }, { on := 30, ground := Ground.data }, { on := 15, ground := Ground.guard }], guard := some (15, false) }) (v := ?vf31) rfl (by kernel_rfl) (by kernel_rfl) (by kernel_rfl) (fun _ _ _ h => h) (Or.inl ⟨by rfl, ?yf31⟩) (by assumption) ?rf31
              case yf31 => (intro w' hSw; (try dsimp only at hSw); go_simp; try with_reducible rfl)
              try simp only [Act.put, List.setIfInBounds_toArray, List.set_cons_zero, List.set_cons_succ]
              refine wpAnyH_take (i := 32) (oi := { dst := some 111, op := Op.pick (Operand.tmp 94) (Operand.const (Value.bool true)) (Operand.tmp 110), type := 4, pos := "law.go:59", after := #[{ on := 15, ground := Ground.data }, { on := 31, ground := Ground.data }], guard := none }) (v := ?vf32) rfl (by kernel_rfl) (by kernel_rfl) (by kernel_rfl) (fun _ _ _ h => h) (Or.inl ⟨by rfl, ?yf32⟩) (by assumption) ?rf32
              case yf32 => (intro w' hSw; (try dsimp only at hSw); go_simp; try with_reducible rfl)
              try simp only [Act.put, List.setIfInBounds_toArray, List.set_cons_zero, List.set_cons_succ]
              refine wpAnyH_done (by kernel_rfl) ?_ _
              go_wp2_with fail
              go_meet
              exact ⟨rfl, HD5, HB5⟩
            obtain ⟨rfl, HD9, HB9⟩ := hcut
            go_wp2_with fail
            go_roundw
            case rel => exact ⟨k + 1, _, by go_num, hlt, HD9, HL2, HAT2, HB9⟩
            case measure => simp [intOf]; omega
        · obtain rfl : k = its.length := by omega
          have hl0 := congrArg List.length HL.out
          rw [List.drop_length, List.length_drop] at hl0
          have hat : at_ = L.length := by
            have h1 := HAT.out
            have h2 : (encAll ([] : List It)).length = 0 := rfl
            omega
          subst hat
          have LF := Lib.hid (decLeft_any wr b8 D L.length v8 L HD.out (by omega) (Nat.le_refl _))
          rw [Nat.sub_self] at LF
          clear hl0
          go_wp2_with fail
          refine LF.out.mono ?_
          rintro e w9 ⟨rfl, k9, rfl⟩
          have ER := Lib.hid (decErr_any (wr.drewN k9) b8 D _ v8 L ⟨HD.out.blk, HD.out.own, HD.out.lo⟩)
          have HB9 := Lib.hid (below_drewN HB.out k9)
          clear LF
          go_wp2_with fail
          refine ER.out.mono ?_
          rintro e w10 ⟨rfl, rfl⟩
          go_wp2_with fail
          go_ret
          exact ⟨rfl, HB9.out⟩
#print axioms back_walk
end Go.Proofs.Ytpkikibcfkdodaa
