/-
  TreesStages: what clashes keeps all three, in their stages.
-/
import Derived.Test.YtapcnmnnichamaaDoorTE
import Derived.Test.YtapcnmnnichamaaDoorTD
import Derived.Deep.RegionHeld3

namespace Go.Proofs.YtapcnmnnichamaaDoor
open Go Go.RowKit

theorem sD_le {l : List Fl} (h : ∀ x ∈ l, x.1.size ≤ 100 ∧ x.2.2.size ≤ 5000) (p : ByteArray) : (sD (getF l p)).size ≤ 20000 := by
  cases hf : getF l p with
  | none => exact Nat.zero_le _
  | some f => have := (h f (getF_mem hf)).2; show f.2.2.size ≤ 20000; omega
theorem flat_split {α β : Type} (g : α → List β) {l : List α} {i : Nat} {p : α} (h : l[i]? = some p) : l.flatMap g = (l.take i).flatMap g ++ g p ++ (l.drop (i + 1)).flatMap g := by
  have e : l = l.take i ++ p :: l.drop (i + 1) := by
    obtain ⟨hi, hp⟩ := List.getElem?_eq_some_iff.1 h
    rw [← hp, List.getElem_cons_drop, List.take_append_drop]
  conv => lhs; rw [e]
  rw [List.flatMap_append, List.flatMap_cons, List.append_assoc]
theorem entR_get {p : ByteArray} {rs : List (Value × List Fl)} {j : Nat} {f : Fl} (hj : j < 3) (h : atR p rs j = some f) : (entR p rs 3)[(entR p rs j).length]? = some (p, 1 + (j : Int), f.2.1, f.2.2, 0, 0) := by
  have hs : ∀ k, j + 1 + k ≤ 3 → ∃ t, entR p rs (j + 1 + k) = entR p rs j ++ (p, 1 + (j : Int), f.2.1, f.2.2, 0, 0) :: t := by
    intro k
    induction k with
    | zero => intro _; exact ⟨[], by rw [Nat.add_zero, entR_snoc, h]; rfl⟩
    | succ k ih =>
      intro hk
      obtain ⟨t, ht⟩ := ih (by omega)
      exact ⟨t ++ entP p (j + 1 + k) (atR p rs (j + 1 + k)), by rw [show j + 1 + (k + 1) = (j + 1 + k) + 1 from rfl, entR_snoc, ht]; simp⟩
  obtain ⟨t, ht⟩ := hs (2 - j) (by omega)
  rw [show j + 1 + (2 - j) = 3 by omega] at ht
  rw [ht, List.getElem?_append_right (Nat.le_refl _), Nat.sub_self]
  rfl
theorem row336 {w : World} {g : Nat} {cs : Array Value} (h : Blk w g 36 cs) (hs : cs.size = 3) (a b c : Value) : Blk (((w.setCell ⟨g, 0, none⟩ a).setCell ⟨g, 1, none⟩ b).setCell ⟨g, 2, none⟩ c) g 36 #[a, b, c] := by
  have := ((h.set_ 0 a).set_ 1 b).set_ 2 c
  match cs, hs with
  | ⟨[x, y, z]⟩, _ => simpa using this
theorem fileA_flZ (X : Option Fl) : fileA X = #[.string (flZ X).1, .int .i64 (flZ X).2.1, .string (flZ X).2.2] := by cases X <;> rfl
set_option maxRecDepth 100000 in
set_option maxHeartbeats 8000000 in
theorem treesStages_any (w : World) (vb vo vt : Value) (b o t : List Fl) (hb : Reads 3 cF w vb b) (ho : Reads 3 cF w vo o) (ht : Reads 3 cF w vt t) :
    Calls Tryd.prog 3 #[vb, vo, vt] w fun e w' => e = .returned (.bool true) ∧ Below w.heap.size w w' := by
  have KN := Lib.hid (known16_yes w)
  have RW := Lib.hid fun W (hW : Below w.heap.size w W) => (⟨hb.below hW, ho.below hW, ht.below hW⟩ : Reads 3 cF W vb b ∧ Reads 3 cF W vo o ∧ Reads 3 cF W vt t)
  obtain ⟨Ab, cb', rfl⟩ := hb.form
  obtain ⟨Ao, co, rfl⟩ := ho.form
  obtain ⟨At, ct, rfl⟩ := ht.form
  clear hb ho ht
  go_enter Tryd.func3, Tryd.ntmps3
  go_wp2_with fail
  refine KN.out.mono ?_
  rintro e w0 ⟨rfl, b0⟩
  have B0 := Lib.hid b0
  clear KN b0
  have C1 := Lib.hid (fewF_any w0 _ b (RW.out _ B0.out).1)
  go_wp2_with fail
  refine C1.out.mono ?_
  rintro e w1 ⟨f1, rfl, hf1, q1, hq1⟩
  have B1 := Lib.hid (show Below w.heap.size w w1 by rw [hq1]; exact below_drewN B0.out q1)
  have Fb := Lib.hid hf1
  clear hf1 hq1 C1 B0
  cases f1 with
  | false =>
    go_wp2
    go_ret
    exact ⟨rfl, B1.out⟩
  | true =>
    have Sb := Lib.hid (show SizedD b from fun x hx => by have := (Fb.out rfl).2 x hx; omega)
    have Nb := Lib.hid (show b.length ≤ 100000 by have := (Fb.out rfl).1; omega)
    have Db := Lib.hid fun p => sD_le (Fb.out rfl).2 p
    have C2 := Lib.hid (fewF_any w1 _ o (RW.out _ B1.out).2.1)
    go_wp2_with fail
    refine C2.out.mono ?_
    rintro e w2 ⟨f2, rfl, hf2, q2, hq2⟩
    have B2 := Lib.hid (show Below w.heap.size w w2 by rw [hq2]; exact below_drewN B1.out q2)
    have Fo := Lib.hid hf2
    clear hf2 hq2 C2 B1
    cases f2 with
    | false =>
      go_wp2
      go_ret
      exact ⟨rfl, B2.out⟩
    | true =>
      have So := Lib.hid (show SizedD o from fun x hx => by have := (Fo.out rfl).2 x hx; omega)
      have No := Lib.hid (show o.length ≤ 100000 by have := (Fo.out rfl).1; omega)
      have Do := Lib.hid fun p => sD_le (Fo.out rfl).2 p
      have C3 := Lib.hid (fewF_any w2 _ t (RW.out _ B2.out).2.2)
      go_wp2_with fail
      refine C3.out.mono ?_
      rintro e w3 ⟨f3, rfl, hf3, q3, hq3⟩
      have B3 := Lib.hid (show Below w.heap.size w w3 by rw [hq3]; exact below_drewN B2.out q3)
      have Ft := Lib.hid hf3
      clear hf3 hq3 C3 B2
      cases f3 with
      | false =>
        go_wp2
        go_ret
        exact ⟨rfl, B3.out⟩
      | true =>
        have St := Lib.hid (show SizedD t from fun x hx => by have := (Ft.out rfl).2 x hx; omega)
        have Nt := Lib.hid (show t.length ≤ 100000 by have := (Ft.out rfl).1; omega)
        have Dt := Lib.hid fun p => sD_le (Ft.out rfl).2 p
        have C4 := Lib.hid (short_any w3 _ b (RW.out _ B3.out).1)
        go_wp2_with fail
        refine C4.out.mono ?_
        rintro e w4 ⟨f4, rfl, hq4⟩
        have B4 := Lib.hid (show Below w.heap.size w w4 by rw [hq4]; exact B3.out)
        clear hq4 C4 B3
        cases f4 with
        | false =>
          go_wp2
          go_ret
          exact ⟨rfl, B4.out⟩
        | true =>
          have C5 := Lib.hid (short_any w4 _ o (RW.out _ B4.out).2.1)
          go_wp2_with fail
          refine C5.out.mono ?_
          rintro e w5 ⟨f5, rfl, hq5⟩
          have B5 := Lib.hid (show Below w.heap.size w w5 by rw [hq5]; exact B4.out)
          clear hq5 C5 B4
          cases f5 with
          | false =>
            go_wp2
            go_ret
            exact ⟨rfl, B5.out⟩
          | true =>
            have C6 := Lib.hid (short_any w5 _ t (RW.out _ B5.out).2.2)
            go_wp2_with fail
            refine C6.out.mono ?_
            rintro e w6 ⟨f6, rfl, hq6⟩
            have B6 := Lib.hid (show Below w.heap.size w w6 by rw [hq6]; exact B5.out)
            clear hq6 C6 B5
            cases f6 with
            | false =>
              go_wp2
              go_ret
              exact ⟨rfl, B6.out⟩
            | true =>
              have BAD : ∀ (w6 : World) (F : Nat), Below w.heap.size w w6 → Hid (Below w.heap.size w (w6.alloc (.cells #[.slice none 0 0, .slice none 0 0, .slice none 0 0] 29))) := fun w6 F h => Lib.hid (h.alloc h.size _)
              cases hm : chkM [(Value.slice Ab b.length cb', b), (Value.slice Ao o.length co, o), (Value.slice At t.length ct, t)] with
              | some ik =>
                obtain ⟨ix, kx⟩ := ik
                have MB := Lib.hid (merge_bad w6 _ _ _ b o t ⟨#[120]⟩ ⟨#[121]⟩ (RW.out _ B6.out).1 (RW.out _ B6.out).2.1 (RW.out _ B6.out).2.2 Sb.out So.out St.out Nb.out No.out Nt.out ix kx hm)
                clear hm
                go_wp2_with fail
                refine MB.out.mono ?_
                rintro e w8 ⟨F, rfl, _, _, b8⟩
                have E8 := BAD w8 F (B6.out.trans (b8.mono B6.out.size))
                clear b8 MB B6
                go_wp2
                go_ret
                exact ⟨rfl, E8.out⟩
              | none =>
                have KK := hm
                unfold chkM at KK
                rw [List.findSome?_eq_none_iff] at KK
                have Kb := Lib.hid (show chkF b = none from KK (Value.slice Ab b.length cb', b) (by simp))
                have Ko := Lib.hid (show chkF o = none from KK (Value.slice Ao o.length co, o) (by simp))
                have Kt := Lib.hid (show chkF t = none from KK (Value.slice At t.length ct, t) (by simp))
                clear hm KK
                obtain ⟨P, hP⟩ : ∃ P, P = pathsP b o t := ⟨_, rfl⟩
                have PL := Lib.hid (show P.length ≤ 192 by rw [hP]; have := pathsP_len b o t; have := chkF_len Kb.out; have := chkF_len Ko.out; have := chkF_len Kt.out; omega)
                have MG := merge_any w6 _ _ _ b o t ⟨#[120]⟩ ⟨#[121]⟩ (RW.out _ B6.out).1 (RW.out _ B6.out).2.1 (RW.out _ B6.out).2.2 Kb.out Ko.out Kt.out Sb.out So.out St.out
                  (fun p => txV (sD (getF b p)) (sD (getF o p)) (sD (getF t p)) ⟨#[120]⟩ ⟨#[121]⟩)
                  (fun p _ _ _ _ W => text_says _ _ _ _ _ (Db.out p) (Do.out p) (Dt.out p) (by decide) (by decide) W)
                  (fun p s k h => txV_bound _ _ _ _ _ (Db.out p) (Do.out p) (Dt.out p) (by decide) (by decide) s k h)
                rw [← hP] at MG
                obtain ⟨E, hE⟩ : ∃ E : ByteArray → List En, E = fun p => entV p (getF b p) (getF o p) (getF t p) := ⟨_, rfl⟩
                rw [← hE] at MG
                obtain ⟨F, hF⟩ : ∃ F : OneF, F = fun p => oneV (txV (sD (getF b p)) (sD (getF o p)) (sD (getF t p)) ⟨#[120]⟩ ⟨#[121]⟩) p (getF b p) (getF o p) (getF t p) := ⟨_, rfl⟩
                rw [← hF] at MG
                obtain ⟨cs, hcs⟩ : ∃ cs, cs = mrgC F P := ⟨_, rfl⟩
                obtain ⟨es, hes⟩ : ∃ es, es = mrgE F E P := ⟨_, rfl⟩
                have HES := Lib.hid (show es = cs.flatMap E by rw [hes, hcs]; rfl)
                have CL := Lib.hid (show cs.length ≤ 192 by rw [hcs]; have := mrgC_len F P; have := PL.out; omega)
                have EL := Lib.hid (show es.length ≤ 600 by rw [hes]; have := mrgE_len F E (fun p => by rw [hE]; exact entV_len _ _ _ _) P; have := PL.out; omega)
                rw [← hcs, ← hes] at MG
                have MG1 := Lib.hid MG
                have HEE := Lib.hid hE
                clear MG hP hE hF hcs hes
                go_wp2_with fail
                refine MG1.out.mono ?_
                rintro e w8 (⟨hn, vf, ve, vc, rfl, of, oe, oc, b8⟩ | ⟨i, kk, Fb, hn, rfl, hF2, hFa, b8⟩)
                case inr =>
                  have E8 := BAD w8 Fb (B6.out.trans (b8.mono B6.out.size))
                  clear b8 hn hF2 hFa MG1 B6
                  go_wp2
                  go_ret
                  exact ⟨rfl, E8.out⟩
                case inl =>
                  obtain ⟨Af, cf, rfl⟩ := own_form of
                  obtain ⟨Ae, ce, rfl⟩ := own_form oe
                  obtain ⟨Ac, cc, rfl⟩ := own_form oc
                  obtain ⟨fl, hfl⟩ : ∃ l, l = (mrgF F P).length := ⟨_, rfl⟩
                  rw [← hfl]
                  clear hfl
                  have RE := Lib.hid ((Reads.of_own cE_len oe).alloc (.cells #[.slice Af fl cf, .slice Ae es.length ce, .slice Ac cs.length cc] 29))
                  have RC := Lib.hid (show ∀ (i : Nat) (p : ByteArray), cs[i]? = some p → ∃ g, Ac = some ⟨g, 0, none⟩ ∧ ∀ W, Below w8.heap.size w8 W → W.cell? ⟨g, i, none⟩ = some (.string p) from fun i p hi => by
                    obtain ⟨g, h1, h2, h3, h4⟩ := own_str_at oc hi
                    exact ⟨g, h1, fun W hW => (hW.cell (p := ⟨g, i, none⟩) h3).trans h4⟩)
                  have X8 := Lib.hid (Blk.new w8 29 #[.slice Af fl cf, .slice Ae es.length ce, .slice Ac cs.length cc])
                  have B9 := Lib.hid (b8.alloc b8.size (.cells #[.slice Af fl cf, .slice Ae es.length ce, .slice Ac cs.length cc] 29))
                  have U9 := Lib.hid ((Below.refl w8.heap.size w8).alloc (Nat.le_refl _) (.cells #[.slice Af fl cf, .slice Ae es.length ce, .slice Ac cs.length cc] 29))
                  have E9 := Lib.hid (B6.out.trans (B9.out.mono B6.out.size))
                  clear of oe oc b8 MG1 hn B6 B9
                  go_upto_region 8 with fail
                  obtain ⟨g7, hg7⟩ : ∃ g, g = w8.heap.size := ⟨_, rfl⟩
                  have HG7 := Lib.hid hg7
                  rw [← hg7] at X8 ⊢
                  clear hg7
                  generalize hW9 : w8.alloc (.cells #[.slice Af fl cf, .slice Ae es.length ce, .slice Ac cs.length cc] 29) = w9 at *
                  clear hW9
                  have TR := trees3 w9 _ _ _ b o t (RW.out _ E9.out).1 (RW.out _ E9.out).2.1 (RW.out _ E9.out).2.2
                  obtain ⟨g8, hg8⟩ : ∃ g, g = w9.heap.size := ⟨_, rfl⟩
                  obtain ⟨w10, hw10⟩ : ∃ W, W = w9.alloc (.cells #[.slice Ab b.length cb', .slice Ao o.length co, .slice At t.length ct] 23) := ⟨_, rfl⟩
                  rw [← hg8, ← hw10] at TR
                  have BA := Lib.hid (show Below w9.heap.size w9 w10 by rw [hw10]; exact (Below.refl _ _).alloc (Nat.le_refl _) _)
                  have XA := Lib.hid (X8.out.below BA.out X8.out.lt)
                  have EA := Lib.hid (E9.out.trans (BA.out.mono E9.out.size))
                  have REA := Lib.hid (RE.out.below BA.out)
                  have UA := Lib.hid (U9.out.trans (BA.out.mono U9.out.size))
                  obtain ⟨rs, hrs⟩ : ∃ rs, rs = [(Value.slice Ab b.length cb', b), (Value.slice Ao o.length co, o), (Value.slice At t.length ct, t)] := ⟨_, rfl⟩
                  rw [← hrs] at TR
                  have TRA := Lib.hid TR
                  have RR := Lib.hid (show ∀ (i : Nat) (r : Value × List Fl), rs[i]? = some r → RiseF r.2 ∧ r.2.length ≤ 100000 from fun i r hr => by
                    have : r ∈ rs := List.mem_of_getElem? hr
                    rw [hrs] at this
                    simp at this
                    rcases this with rfl | rfl | rfl
                    · exact ⟨chkF_rise Kb.out, Nb.out⟩
                    · exact ⟨chkF_rise Ko.out, No.out⟩
                    · exact ⟨chkF_rise Kt.out, Nt.out⟩)
                  have HL := Lib.hid (show rs.length = 3 by rw [hrs]; rfl)
                  have HE3 := Lib.hid (show ∀ p, entR p rs 3 = E p from fun p => by rw [HEE.out, entR_snoc, entR_snoc, entR_snoc, hrs]; simp [entR, entV, atR])
                  have HW10 := Lib.hid hw10
                  have HG8 := Lib.hid hg8
                  have XC := Lib.hid fun W (hW : Below w10.heap.size w10 W) => XA.out.below hW XA.out.lt
                  clear TR hrs hw10 hg8 BA X8 RE U9 E9
                  go_wp2_with fail
                  rw [← HG8.out, ← HW10.out]
                  have cl0 : (0 : Int) ≤ (cs.length : Int) := Int.natCast_nonneg _
                  have cl9 : (cs.length : Int) ≤ 192 := by have := CL.out; omega
                  have el0 : (0 : Int) ≤ (es.length : Int) := Int.natCast_nonneg _
                  have el9 : (es.length : Int) ≤ 600 := by have := EL.out; omega
                  go_loopw [10, 11, 12, 13, 14, 15] (fun s10 s11 _ _ _ _ wr => ∃ i n : Nat, i ≤ cs.length ∧ s10 = .int .i64 n ∧ s11 = .int .i64 i ∧ Hid (n = ((cs.take i).flatMap E).length) ∧ Hid (Below w10.heap.size w10 wr)) (fun _ s11 _ _ _ _ _ => cs.length - (intOf s11).toNat)
                  case atStart => exact ⟨0, 0, Nat.zero_le _, rfl, rfl, Lib.hid rfl, Lib.hid (Below.refl _ _)⟩
                  case round =>
                    obtain ⟨i, n, hi, rfl, rfl, HN, HB⟩ := hrel
                    have i0 : (0 : Int) ≤ (i : Int) := Int.natCast_nonneg _
                    have x2 := (XC.out _ HB.out).cell 2
                    by_cases hlt : i < cs.length
                    · obtain ⟨p, hp⟩ : ∃ p, cs[i]? = some p := ⟨_, List.getElem?_eq_getElem hlt⟩
                      obtain ⟨gP, rfl, hc⟩ := RC.out i p hp
                      have HSP := Lib.hid (flat_split E hp)
                      have HTK := Lib.hid (show (cs.take (i + 1)).flatMap E = (cs.take i).flatMap E ++ E p by rw [take_snoc hp, List.flatMap_append]; simp)
                      have HLT := Lib.hid hlt
                      have hii : (i : Int) < (cs.length : Int) := by omega
                      have HC := Lib.hid fun W (hW : Below w10.heap.size w10 W) => hc W (UA.out.trans (hW.mono UA.out.size))
                      clear hp hlt hc hi
                      go_wp2_with fail
                      clear x2
                      go_loopw [10, 12, 13, 14, 15] (fun s10 s12 _ _ _ wq => ∃ j m S : Nat, j ≤ 3 ∧ s10 = .int .i64 m ∧ s12 = .int .i64 S ∧ Hid (S = j + 1) ∧ Hid (m = n + (entR p rs j).length) ∧ Hid (Below w10.heap.size w10 wq)) (fun _ s12 _ _ _ _ => 4 - (intOf s12).toNat)
                      case atStart => exact ⟨0, n, 1, Nat.zero_le _, rfl, rfl, Lib.hid rfl, Lib.hid rfl, HB⟩
                      case round =>
                        obtain ⟨j, m, S, hj, rfl, rfl, HS, HM, HB2⟩ := hrel
                        have S0 : (0 : Int) ≤ (S : Int) := Int.natCast_nonneg _
                        by_cases hj3 : j < 3
                        · obtain ⟨r, hr⟩ : ∃ r, rs[j]? = some r := ⟨_, List.getElem?_eq_getElem (by rw [HL.out]; exact hj3)⟩
                          have hS3 : (S : Int) ≤ 3 := by have := HS.out; omega
                          have hw1 : IntKind.i64.wrap ((S : Int) - 1) = (j : Int) := by rw [IntKind.wrap_i64] <;> have := HS.out <;> omega
                          have hji : (j : Int) < 3 := by omega
                          have j0 : (0 : Int) ≤ (j : Int) := Int.natCast_nonneg _
                          have hS1 : (1 : Int) ≤ (S : Int) := by have := HS.out; omega
                          have c0 := ((TRA.out.below HB2.out) j r hr).1
                          have hrd := ((TRA.out.below HB2.out) j r hr).2
                          have hq := RR.out j r hr
                          rw [add_zero_off] at c0
                          have HA := Lib.hid (show atR p rs j = getF r.2 p by unfold atR; rw [hr]; rfl)
                          obtain ⟨rv, l⟩ := r
                          dsimp only at hrd hq c0 HA
                          have GT := Lib.hid fun W (hW : Below wr.heap.size wr W) => get_any W rv l p (hrd.below hW) hq.1 hq.2
                          obtain ⟨A, c, rfl⟩ := hrd.form
                          have HPF := Lib.hid (show ∀ f, getF l p = some f → f.1 = p from fun f hf => getF_path hf)
                          obtain ⟨X, hX⟩ : ∃ X, X = getF l p := ⟨_, rfl⟩
                          rw [← hX] at GT HA HPF
                          unfold Got at GT
                          rw [gotV_flZ] at GT
                          have x2 := (XC.out _ HB2.out).cell 2
                          have SZ := Lib.hid fun W (hW : Below wr.heap.size wr W) => (⟨(hW.cell (World.block_lt_of_cell? _ _ c0)).trans c0, (XC.out W (HB2.out.trans (hW.mono HB2.out.size))).cell 2, HC.out W (HB2.out.trans (hW.mono HB2.out.size))⟩ : W.cell? ⟨g8, j, none⟩ = some (.slice A l.length c) ∧ W.cell? ⟨g7, 2, none⟩ = some (.slice (some ⟨gP, 0, none⟩) cs.length cc) ∧ W.cell? ⟨gP, i, none⟩ = some (.string p))
                          clear hr hrd hq hX c0 x2 hj
                          go_upto_region 16 with fail
                          have d0 : Below wr.heap.size wr wr.drew := (Below.refl _ _).drew
                          have dA : Below wr.heap.size wr (wr.alloc (.cells #[.string ⟨#[]⟩, .int .i64 0, .string ⟨#[]⟩] 36)).drew := ((Below.refl _ _).alloc (Nat.le_refl _) _).drew
                          go_cut [13, 14] (fun s13 s14 wx => ∃ z5 : Nat, s13 = .pointer (some ⟨z5, 0, none⟩) ∧ s14 = .bool X.isSome ∧ Hid (Blk wx z5 36 (fileA X)) ∧ Hid (Below wr.heap.size wr wx))
                          case first =>
                            go_region_held3 (fun w' => w'.cell? ⟨g8, j, none⟩ = some (.slice A l.length c) ∧ w'.cell? ⟨g7, 2, none⟩ = some (.slice (some ⟨gP, 0, none⟩) cs.length cc) ∧ w'.cell? ⟨gP, i, none⟩ = some (.string p)) (first | exact SZ.out _ d0 | exact SZ.out _ dA | exact SZ.out _ bz | exact SZ.out _ (bz.alloc bz.size (.cells #[.string (flZ X).1, .int .i64 (flZ X).2.1, .string (flZ X).2.2] 36)) | exact SZ.out _ (bz.alloc bz.size (.cells #[.string ⟨#[]⟩, .int .i64 0, .string ⟨#[]⟩] 36)) | exact SZ.out _ (((bz.setCell (p := ⟨wr.heap.size, 0, none⟩) (Nat.le_refl _) (.string (flZ X).1)).setCell (p := ⟨wr.heap.size, 1, none⟩) (Nat.le_refl _) (.int .i64 (flZ X).2.1)).setCell (p := ⟨wr.heap.size, 2, none⟩) (Nat.le_refl _) (.string (flZ X).2.2)))
                              (first
                                | (go_at_call 8; refine (GT.out _ dA).mono ?_; rintro e wz ⟨rfl, b9⟩; have bz := dA.trans (b9.mono dA.size); have K9 := (show Blk (wr.alloc (.cells #[.string ⟨#[]⟩, .int .i64 0, .string ⟨#[]⟩] 36)).drew wr.heap.size 36 #[.string ⟨#[]⟩, .int .i64 0, .string ⟨#[]⟩] from Blk.new wr 36 _).below b9 (by simp); have y0 := K9.cell 0; have y1 := K9.cell 1; have y2 := K9.cell 2; have q0 := K9.frozen 0; have q1 := K9.frozen 1; have q2 := K9.frozen 2)
                                | (go_at_call 8; refine (GT.out _ d0).mono ?_; rintro e wz ⟨rfl, b9⟩; have bz := d0.trans (b9.mono d0.size)))
                            all_goals (go_wp2_with fail; go_meet)
                            all_goals first
                              | exact ⟨wr.heap.size, rfl, rfl, Lib.hid (by rw [fileA_flZ]; exact row336 K9 rfl _ _ _), Lib.hid (((bz.setCell (p := ⟨wr.heap.size, 0, none⟩) (Nat.le_refl _) _).setCell (p := ⟨wr.heap.size, 1, none⟩) (Nat.le_refl _) _).setCell (p := ⟨wr.heap.size, 2, none⟩) (Nat.le_refl _) _)⟩
                              | exact ⟨wz.heap.size, rfl, rfl, Lib.hid (by rw [fileA_flZ]; exact Blk.new wz 36 _), Lib.hid (bz.alloc bz.size _)⟩
                          case rest =>
                            obtain ⟨z5, rfl, rfl, HZ5, HB5⟩ := hcut
                            have HB6 := Lib.hid (HB2.out.trans (HB5.out.mono HB2.out.size))
                            clear GT SZ d0 dA hw1
                            cases X with
                            | none =>
                              have HM2 := Lib.hid (show m = n + (entR p rs (j + 1)).length by rw [entR_snoc, HA.out, HM.out]; simp [entP])
                              go_wp2
                              go_roundw
                              case rel => exact ⟨j + 1, m, S + 1, by omega, rfl, by go_num, Lib.hid (by rw [HS.out]), HM2, HB6⟩
                              case measure => have := HS.out; simp [intOf]; omega
                            | some f =>
                              have hfp := HPF.out f rfl
                              obtain ⟨fp, fm, fd⟩ := f
                              dsimp only at hfp
                              subst hfp
                              have HM2 := Lib.hid (show m + 1 = n + (entR fp rs (j + 1)).length by rw [entR_snoc, HA.out, HM.out, List.length_append]; simp [entP]; omega)
                              have HEN : es[m]? = some (fp, (S : Int), fm, fd, 0, 0) := by
                                have h1 := entR_get hj3 HA.out
                                rw [HE3.out, show (1 : Int) + (j : Int) = (S : Int) by have := HS.out; omega] at h1
                                have h2 := (List.getElem?_eq_some_iff.1 h1).1
                                rw [HES.out, HSP.out, HM.out, HN.out, List.append_assoc, List.getElem?_append_right (by omega), List.getElem?_append_left (by omega)]
                                rw [show (List.flatMap E (cs.take i)).length + (entR fp rs j).length - (List.flatMap E (cs.take i)).length = (entR fp rs j).length by omega, h1]
                              have hml := (List.getElem?_eq_some_iff.1 HEN).1
                              have hm1 : (m : Int) < (es.length : Int) := by omega
                              have hm2 : ¬ (es.length : Int) ≤ (m : Int) := by omega
                              have m0 : (0 : Int) ≤ (m : Int) := Int.natCast_nonneg _
                              obtain ⟨ae, hae, e0, e1, e2, e3, e4, e5⟩ := Ents.at_ (REA.out.below HB6.out) HEN
                              subst hae
                              have x1 := (XC.out _ HB6.out).cell 1
                              have hz5 : z5 < wc.heap.size := HZ5.out.lt
                              have z0 := HZ5.out.cell 0
                              have z1 := HZ5.out.cell 1
                              have z2 := HZ5.out.cell 2
                              have HB7 := Lib.hid (HB6.out.alloc HB6.out.size (.cells #[.string fp, .int .i64 (S : Int), .int .i64 fm, .string fd, .int .i64 0, .int .i64 0] 40))
                              have HML := Lib.hid hml
                              clear HEN hml
                              go_upto_region 20 with fail
                              clear x1 hm2
                              have x1 := (XC.out _ HB6.out).cell 1
                              go_upto_region 21 with fail
                              have KE := Lib.hid (Blk.new wc 40 #[.string fp, .int .i64 (S : Int), .int .i64 fm, .string fd, .int .i64 0, .int .i64 0])
                              have KZ := Lib.hid (HZ5.out.alloc (.cells #[.string fp, .int .i64 (S : Int), .int .i64 fm, .string fd, .int .i64 0, .int .i64 0] 40))
                              obtain ⟨gE, hgE⟩ : ∃ g, g = wc.heap.size := ⟨_, rfl⟩
                              rw [← hgE] at KE ⊢
                              clear z0 z1 z2 e0 e1 e2 e3 e4 e5 x1 hgE hz5 HB6 HZ5
                              generalize wc.alloc (.cells #[.string fp, .int .i64 (S : Int), .int .i64 fm, .string fd, .int .i64 0, .int .i64 0] 40) = w21 at *
                              have z0 : w21.cell? ⟨z5, 0, none⟩ = some (.string fp) := KZ.out.cell 0
                              have z1 : w21.cell? ⟨z5, 1, none⟩ = some (.int .i64 fm) := KZ.out.cell 1
                              have z2 : w21.cell? ⟨z5, 2, none⟩ = some (.string fd) := KZ.out.cell 2
                              have y0 := KE.out.cell 0
                              have y1 := KE.out.cell 1
                              have y2 := KE.out.cell 2
                              have y3 := KE.out.cell 3
                              go_wp2
                              go_roundw
                              case rel => exact ⟨j + 1, m + 1, S + 1, by omega, by go_num, by go_num, Lib.hid (by rw [HS.out]), HM2, HB7⟩
                              case measure => have := HS.out; simp [intOf]; omega
                        · obtain rfl : j = 3 := by omega
                          obtain rfl : S = 4 := by have := HS.out; omega
                          have HN2 := Lib.hid (show m = ((cs.take (i + 1)).flatMap E).length by rw [HM.out, HE3.out, HTK.out, List.length_append, HN.out])
                          go_wp2
                          go_roundw
                          case rel => exact ⟨i + 1, m, by have := HLT.out; omega, rfl, by go_num, HN2, HB2⟩
                          case measure => have := HLT.out; simp [intOf]; omega
                    · obtain rfl : i = cs.length := by omega
                      have x1 := (XC.out _ HB.out).cell 1
                      have hne : n = es.length := by rw [HN.out, List.take_length, HES.out]
                      have HEB := Lib.hid (EA.out.trans (HB.out.mono EA.out.size))
                      subst hne
                      clear HN hlt hi
                      go_wp2
                      go_ret
                      exact ⟨rfl, HEB.out⟩
end Go.Proofs.YtapcnmnnichamaaDoor
