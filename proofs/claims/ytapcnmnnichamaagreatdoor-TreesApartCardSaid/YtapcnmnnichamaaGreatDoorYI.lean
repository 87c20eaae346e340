/-
  TreesApart: where at each path one side is as base has it, the other's file is taken, and nothing clashes.
  TreesApart: changes to different files are all taken, and none clashes.
-/
import Derived.Test.YtapcnmnnichamaaGreatDoorTC
import Derived.Test.YtapcnmnnichamaaGreatDoorYF
import Derived.Test.YtapcnmnnichamaaGreatDoorTE
import Derived.Test.YtapcnmnnichamaaGreatDoorYG
import Derived.Deep.RegionHeld3

namespace Go.Proofs.YtapcnmnnichamaaGreatDoor
open Go Go.RowKit

theorem oneV_x2 {p : ByteArray} {x y : Option Fl} : oneV none p x y x = (y, false) := by unfold oneV; rw [if_pos (.inr rfl)]
theorem oneV_y2 {p : ByteArray} {x z : Option Fl} : oneV none p x x z = (z, false) := by
  unfold oneV
  by_cases h : x = z
  · rw [if_pos (.inr h), h]
  · rw [if_neg (fun e => e.elim h h), if_pos rfl]
theorem apart_one {p : ByteArray} {x y z : Option Fl} (h : x = y ∨ x = z) : oneV none p x y z = (if x = y then z else y, false) := by
  by_cases h1 : x = y
  · subst h1
    rw [oneV_y2, if_pos rfl]
  · rw [if_neg h1]
    obtain rfl := h.resolve_left h1
    rw [oneV_x2]
theorem mrgF_rise {F : OneF} {P : List ByteArray} (hP : RiseP P) (hF : ∀ p f, (F p).1 = some f → f.1 = p) : RiseF (mrgF F P) := by
  refine List.pairwise_filterMap.2 (hP.imp fun {a b} hab f hf g hg => ?_)
  rw [hF _ _ hf, hF _ _ hg]
  exact hab
theorem mrgF_get {F : OneF} {P : List ByteArray} (hP : RiseP P) (hF : ∀ p f, (F p).1 = some f → f.1 = p) {p : ByteArray} (hp : p ∈ P) : getF (mrgF F P) p = (F p).1 := by
  refine opt_ext fun f => ?_
  rw [getF_iff (mrgF_rise hP hF)]
  constructor
  · rintro ⟨h1, h2⟩
    obtain ⟨q, _, h3⟩ := List.mem_filterMap.1 h1
    have := hF _ _ h3
    rw [← h2, this]
    exact h3
  · intro h
    exact ⟨List.mem_filterMap.2 ⟨p, hp, h⟩, hF _ _ h⟩
/-- What comes of three trees that are apart. -/
abbrev apF (b o t : List Fl) : OneF := fun p => oneV none p (getF b p) (getF o p) (getF t p)
theorem apart_path {b o t : List Fl} (so : SizedD o) (st : SizedD t) (p : ByteArray) (f : Fl) (h : (apF b o t p).1 = some f) : f.1 = p := (oneV_path so st h).1
theorem apart_get {b o t : List Fl} (so : SizedD o) (st : SizedD t) {P : List ByteArray} (hP : RiseP P) (ha : ∀ p ∈ P, getF b p = getF o p ∨ getF b p = getF t p) {p : ByteArray} (hp : p ∈ P) :
    getF (mrgF (apF b o t) P) p = if getF b p = getF o p then getF t p else getF o p := by
  rw [mrgF_get hP (apart_path so st) hp]
  show (oneV none p (getF b p) (getF o p) (getF t p)).1 = _
  rw [apart_one (ha p hp)]
theorem apart_none {b o t : List Fl} {P : List ByteArray} (ha : ∀ p ∈ P, getF b p = getF o p ∨ getF b p = getF t p) : mrgC (apF b o t) P = [] := by
  unfold mrgC
  rw [List.filter_eq_nil_iff]
  intro p hp
  show ¬ (oneV none p (getF b p) (getF o p) (getF t p)).2 = true
  rw [apart_one (ha p hp)]
  simp
theorem apart_noE {b o t : List Fl} {P : List ByteArray} (g : ByteArray → List En) (ha : ∀ p ∈ P, getF b p = getF o p ∨ getF b p = getF t p) : mrgE (apF b o t) g P = [] := by
  unfold mrgE
  rw [apart_none ha]
  rfl
theorem wayF_err : ∀ (a r : List Fl) {i : Nat} {k : Int}, wayF a r = some (i, k) → k = 11
  | a, [], _, _, h => by cases h
  | a, f :: r, i, k, h => by
    unfold wayF at h
    split at h
    · cases h; rfl
    · exact wayF_err _ _ h
theorem way_err {l : List Fl} {i : Nat} {k : Int} (h : wayV l = some (i, k)) : k = 4 ∨ k = 11 := by
  unfold wayV at h
  split at h
  · cases h; exact .inl rfl
  · exact .inr (wayF_err _ _ h)
end Go.Proofs.YtapcnmnnichamaaGreatDoor

namespace Go.Proofs.YtapcnmnnichamaaGreatDoor
open Go Go.RowKit

set_option maxRecDepth 100000 in
set_option maxHeartbeats 8000000 in
theorem treesApart_any (w : World) (vb vo vt : Value) (b o t : List Fl) (hb : Reads 3 cF w vb b) (ho : Reads 3 cF w vo o) (ht : Reads 3 cF w vt t) :
    Calls Tryz.prog 6 #[vb, vo, vt] w fun e w' => e = .returned (.bool true) ∧ Below w.heap.size w w' := by
  have KN := Lib.hid (known16_yes w)
  have RW := Lib.hid fun W (hW : Below w.heap.size w W) => (⟨hb.below hW, ho.below hW, ht.below hW⟩ : Reads 3 cF W vb b ∧ Reads 3 cF W vo o ∧ Reads 3 cF W vt t)
  obtain ⟨Ab, cb', rfl⟩ := hb.form
  obtain ⟨Ao, co, rfl⟩ := ho.form
  obtain ⟨At, ct, rfl⟩ := ht.form
  clear hb ho ht
  go_enter Tryz.func6, Tryz.ntmps6
  go_wp2_with fail
  refine KN.out.mono ?_
  rintro e w0 ⟨rfl, b0⟩
  have B0 := Lib.hid b0
  clear KN b0
  have C1 := Lib.hid (fewF_any w0 _ b (RW.out _ B0.out).1)
  go_wp2_with fail
  refine C1.out.mono ?_
  rintro e w1 ⟨f1, rfl, hf1, q1, hq1⟩
  have B1 := Lib.hid (show Below w.heap.size w w1 by rw [hq1]; exact below_drewN B0.out q1)
  have Fb := Lib.hid hf1
  clear hf1 hq1 C1 B0
  cases f1 with
  | false =>
    go_wp2
    go_ret
    exact ⟨rfl, B1.out⟩
  | true =>
    have Sb := Lib.hid (show SizedD b from fun x hx => by have := (Fb.out rfl).2 x hx; omega)
    have Nb := Lib.hid (show b.length ≤ 100000 by have := (Fb.out rfl).1; omega)
    have C2 := Lib.hid (fewF_any w1 _ o (RW.out _ B1.out).2.1)
    go_wp2_with fail
    refine C2.out.mono ?_
    rintro e w2 ⟨f2, rfl, hf2, q2, hq2⟩
    have B2 := Lib.hid (show Below w.heap.size w w2 by rw [hq2]; exact below_drewN B1.out q2)
    have Fo := Lib.hid hf2
    clear hf2 hq2 C2 B1
    cases f2 with
    | false =>
      go_wp2
      go_ret
      exact ⟨rfl, B2.out⟩
    | true =>
      have So := Lib.hid (show SizedD o from fun x hx => by have := (Fo.out rfl).2 x hx; omega)
      have No := Lib.hid (show o.length ≤ 100000 by have := (Fo.out rfl).1; omega)
      have C3 := Lib.hid (fewF_any w2 _ t (RW.out _ B2.out).2.2)
      go_wp2_with fail
      refine C3.out.mono ?_
      rintro e w3 ⟨f3, rfl, hf3, q3, hq3⟩
      have B3 := Lib.hid (show Below w.heap.size w w3 by rw [hq3]; exact below_drewN B2.out q3)
      have Ft := Lib.hid hf3
      clear hf3 hq3 C3 B2
      cases f3 with
      | false =>
        go_wp2
        go_ret
        exact ⟨rfl, B3.out⟩
      | true =>
        have St := Lib.hid (show SizedD t from fun x hx => by have := (Ft.out rfl).2 x hx; omega)
        have Nt := Lib.hid (show t.length ≤ 100000 by have := (Ft.out rfl).1; omega)
        by_cases hb : (20 : Int) < (b.length : Int)
        · go_wp2
          go_ret
          exact ⟨rfl, B3.out⟩
        have hb2 : ¬ 20 < b.length := by omega
        by_cases ho : (20 : Int) < (o.length : Int)
        · go_wp2
          go_ret
          exact ⟨rfl, B3.out⟩
        have ho2 : ¬ 20 < o.length := by omega
        by_cases ht : (20 : Int) < (t.length : Int)
        · go_wp2
          go_ret
          exact ⟨rfl, B3.out⟩
        have ht2 : ¬ 20 < t.length := by omega
        have C4 := Lib.hid (checkF_any w3 _ b (RW.out _ B3.out).1 Sb.out Nb.out)
        go_wp2_with fail
        refine C4.out.mono ?_
        rintro e w4 (⟨kb, rfl, b4⟩ | ⟨i, k, F, _, rfl, _, _, b4⟩)
        case inr =>
          have B4 := Lib.hid (B3.out.trans (b4.mono B3.out.size))
          clear b4
          go_wp2
          go_ret
          exact ⟨rfl, B4.out⟩
        have B4 := Lib.hid (B3.out.trans (b4.mono B3.out.size))
        have Kb := Lib.hid kb
        clear b4 kb C4 B3
        have C5 := Lib.hid (checkF_any w4 _ o (RW.out _ B4.out).2.1 So.out No.out)
        go_wp2_with fail
        refine C5.out.mono ?_
        rintro e w5 (⟨ko, rfl, b5⟩ | ⟨i, k, F, _, rfl, _, _, b5⟩)
        case inr =>
          have B5 := Lib.hid (B4.out.trans (b5.mono B4.out.size))
          clear b5
          go_wp2
          go_ret
          exact ⟨rfl, B5.out⟩
        have B5 := Lib.hid (B4.out.trans (b5.mono B4.out.size))
        have Ko := Lib.hid ko
        clear b5 ko C5 B4
        have C6 := Lib.hid (checkF_any w5 _ t (RW.out _ B5.out).2.2 St.out Nt.out)
        go_wp2_with fail
        refine C6.out.mono ?_
        rintro e w6 (⟨kt, rfl, b6⟩ | ⟨i, k, F, _, rfl, _, _, b6⟩)
        case inr =>
          have B6 := Lib.hid (B5.out.trans (b6.mono B5.out.size))
          clear b6
          go_wp2
          go_ret
          exact ⟨rfl, B6.out⟩
        have B6 := Lib.hid (B5.out.trans (b6.mono B5.out.size))
        have Kt := Lib.hid kt
        clear b6 kt C6 B5
        have O1 := Lib.hid fun W (hW : Below w.heap.size w W) => lawOf_any W _ b (RW.out W hW).1 Nb.out
        have O2 := Lib.hid fun W (hW : Below w.heap.size w W) => lawOf_any W _ o (RW.out W hW).2.1 No.out
        have O3 := Lib.hid fun W (hW : Below w.heap.size w W) => lawOf_any W _ t (RW.out W hW).2.2 Nt.out
        unfold OwnTo at O1 O2 O3
        obtain ⟨P, hP⟩ : ∃ P, P = pathsP b o t := ⟨_, rfl⟩
        have HP := Lib.hid hP
        have PL := Lib.hid (show P.length ≤ 192 by rw [hP]; have := pathsP_len b o t; have := chkF_len Kb.out; have := chkF_len Ko.out; have := chkF_len Kt.out; omega)
        clear hP
        go_wp2_with fail
        clear hb ho ht hb2 ho2 ht2
        refine (O1.out _ B6.out).mono ?_
        rintro e u1 ⟨y1, rfl, r1, c1⟩
        have E1 := Lib.hid (B6.out.trans (c1.mono B6.out.size))
        have Q1 := Lib.hid (Reads.of_own (enc := cF) (fun _ => rfl) r1)
        obtain ⟨A1, d1, rfl⟩ := own_form r1
        clear r1 c1 B6
        go_wp2_with fail
        refine (O2.out _ E1.out).mono ?_
        rintro e u2 ⟨y2, rfl, r2, c2⟩
        have E2 := Lib.hid (E1.out.trans (c2.mono E1.out.size))
        have Q1b := Lib.hid (Q1.out.below c2)
        have Q2 := Lib.hid (Reads.of_own (enc := cF) (fun _ => rfl) r2)
        obtain ⟨A2, d2, rfl⟩ := own_form r2
        clear r2 c2 E1 Q1
        go_wp2_with fail
        refine (O3.out _ E2.out).mono ?_
        rintro e u3 ⟨y3, rfl, r3, c3⟩
        have E3 := Lib.hid (E2.out.trans (c3.mono E2.out.size))
        have TR := trees3R u3 _ _ _ b o t (Q1b.out.below c3) (Q2.out.below c3) (Reads.of_own (enc := cF) (fun _ => rfl) r3)
        obtain ⟨A3, d3, rfl⟩ := own_form r3
        have PA := refPaths_any _ ⟨u3.heap.size, 0, none⟩ 3 _ TR (by simp) (by have := Nb.out; have := No.out; have := Nt.out; have := chkF_len Kb.out; have := chkF_len Ko.out; have := chkF_len Kt.out; simp [pathsR]; omega)
        rw [pathsP_eq, ← HP.out] at PA
        have PA2 := Lib.hid (show Calls Tryz.prog 19 #[.slice (some ⟨u3.heap.size, 0, none⟩) 3 3] _ _ from PA)
        have E4 := Lib.hid (E3.out.alloc E3.out.size (.cells #[.slice A1 b.length d1, .slice A2 o.length d2, .slice A3 t.length d3] 34))
        clear PA TR r3 c3 E2 E3 Q1b Q2
        go_wp2_with fail
        refine PA2.out.mono ?_
        rintro e u4 ⟨yp, rfl, oP, c4⟩
        obtain ⟨AP, cP, rfl⟩ := own_form oP
        have E5 := Lib.hid (E4.out.trans (c4.mono E4.out.size))
        have PC := Lib.hid (show ∀ (i : Nat) (p : ByteArray), P[i]? = some p → ∃ g, AP = some ⟨g, 0, none⟩ ∧ ∀ W, Below u4.heap.size u4 W → W.cell? ⟨g, i, none⟩ = some (.string p) from fun i p hi => by
          obtain ⟨g, h1, h2, h3, h4⟩ := own_str_at oP hi
          exact ⟨g, h1, fun W hW => (hW.cell (p := ⟨g, i, none⟩) h3).trans h4⟩)
        have p0 : (0 : Int) ≤ (P.length : Int) := Int.natCast_nonneg _
        have p192 : (P.length : Int) ≤ 192 := by have := PL.out; omega
        clear PA2 oP c4 E4
        go_wp2_with fail
        go_loopw [8] (fun s8 wr => ∃ k : Nat, k ≤ P.length ∧ s8 = .int .i64 k ∧ Hid (Below u4.heap.size u4 wr) ∧ Hid (∀ (j : Nat) (p : ByteArray), j < k → P[j]? = some p → getF b p = getF o p ∨ getF b p = getF t p)) (fun s8 _ => P.length - (intOf s8).toNat)
        case atStart => exact ⟨0, Nat.zero_le _, rfl, Lib.hid (Below.refl _ _), Lib.hid fun j p hj => absurd hj (Nat.not_lt_zero _)⟩
        case round =>
          obtain ⟨k, hk, rfl, HB, HI⟩ := hrel
          have k0 : (0 : Int) ≤ (k : Int) := Int.natCast_nonneg _
          by_cases hlt : k < P.length
          · obtain ⟨p, hp⟩ : ∃ p, P[k]? = some p := ⟨_, List.getElem?_eq_getElem hlt⟩
            obtain ⟨gP, rfl, hc⟩ := PC.out k p hp
            have CC := Lib.hid fun W (hW : Below wr.heap.size wr W) => hc W (HB.out.trans (hW.mono HB.out.size))
            have WW := Lib.hid (E5.out.trans (HB.out.mono E5.out.size))
            have hk1 : (k : Int) < (P.length : Int) := by omega
            have HP2 := Lib.hid hp
            have LK := Lib.hid fun W (u v : Value) (l m : List Fl) (h1 : Reads 3 cF W u l) (h2 : Reads 3 cF W v m) (n1 : l.length ≤ 100000) (n2 : m.length ≤ 100000) => like_any W u v l m p h1 h2 n1 n2
            unfold FlagTo at LK
            have HLT := Lib.hid hlt
            clear hp hc
            by_cases h1 : getF b p = getF o p
            · have H1 := Lib.hid (decide_eq_true h1)
              have HI2 := Lib.hid (show ∀ (j : Nat) (q : ByteArray), j < k + 1 → P[j]? = some q → getF b q = getF o q ∨ getF b q = getF t q from fun j q hj hq => by
                rcases Nat.lt_or_ge j k with e1 | e1
                · exact HI.out j q e1 hq
                · obtain rfl : j = k := by omega
                  rw [HP2.out] at hq
                  cases hq
                  exact .inl h1)
              clear h1
              go_upto_region 9 with fail
              have hz0 : Below wr.heap.size wr wr.drew := (Below.refl _ _).drew
              refine wp_region_held_drew (S := fun w' => w'.cell? ⟨gP, k, none⟩ = some (.string p)) (by kernel_rfl) (CC.out _ hz0) (fun hHeld => ?_)
              refine wpAnyH_take (i := 0) (oi := { dst := some 74, op := Op.move (Operand.tmp 0), type := 23, pos := "more.go:20", after := #[], guard := none }) (v := ?va0) rfl (by kernel_rfl) (by kernel_rfl) (by kernel_rfl) (fun _ _ _ h => h) (Or.inl ⟨by rfl, ?ya0⟩) (by assumption) ?ra0
              case ya0 => (intro w' hSw; (try dsimp only at hSw); go_simp; try with_reducible rfl)
              try simp only [Act.put, List.setIfInBounds_toArray, List.set_cons_zero, List.set_cons_succ]
              refine wpAnyH_take (i := 2) (oi := { dst := some 76, op := Op.move (Operand.tmp 1), type := 23, pos := "more.go:20", after := #[], guard := none }) (v := ?va2) rfl (by kernel_rfl) (by kernel_rfl) (by kernel_rfl) (fun _ _ _ h => h) (Or.inl ⟨by rfl, ?ya2⟩) (by assumption) ?ra2
              case ya2 => (intro w' hSw; (try dsimp only at hSw); go_simp; try with_reducible rfl)
              try simp only [Act.put, List.setIfInBounds_toArray, List.set_cons_zero, List.set_cons_succ]
              refine wpAnyH_take (i := 4) (oi := { dst := some 78, op := Op.move (Operand.tmp 7), type := 27, pos := "more.go:20", after := #[], guard := none }) (v := ?va4) rfl (by kernel_rfl) (by kernel_rfl) (by kernel_rfl) (fun _ _ _ h => h) (Or.inl ⟨by rfl, ?ya4⟩) (by assumption) ?ra4
              case ya4 => (intro w' hSw; (try dsimp only at hSw); go_simp; try with_reducible rfl)
              try simp only [Act.put, List.setIfInBounds_toArray, List.set_cons_zero, List.set_cons_succ]
              refine wpAnyH_take (i := 5) (oi := { dst := some 79, op := Op.move (Operand.tmp 8), type := 3, pos := "more.go:20", after := #[], guard := none }) (v := ?va5) rfl (by kernel_rfl) (by kernel_rfl) (by kernel_rfl) (fun _ _ _ h => h) (Or.inl ⟨by rfl, ?ya5⟩) (by assumption) ?ra5
              case ya5 => (intro w' hSw; (try dsimp only at hSw); go_simp; try with_reducible rfl)
              try simp only [Act.put, List.setIfInBounds_toArray, List.set_cons_zero, List.set_cons_succ]
              refine wpAnyH_take (i := 6) (oi := { dst := some 80, op := Op.indexAddr 27 (Operand.tmp 78) (Operand.tmp 79), type := 0, pos := "more.go:20", after := #[{ on := 4, ground := Ground.data }, { on := 5, ground := Ground.data }], guard := none }) (v := ?va6) rfl (by kernel_rfl) (by kernel_rfl) (by kernel_rfl) (fun _ _ _ h => h) (Or.inl ⟨by rfl, ?ya6⟩) (by assumption) ?ra6
              case ya6 => (intro w' hSw; (try dsimp only at hSw); go_simp; try with_reducible rfl)
              try simp only [Act.put, List.setIfInBounds_toArray, List.set_cons_zero, List.set_cons_succ]
              refine wpAnyH_take (i := 7) (oi := { dst := some 81, op := Op.load 9 (Operand.tmp 80), type := 9, pos := "more.go:20", after := #[{ on := 6, ground := Ground.data }], guard := none }) (v := ?va7) rfl (by kernel_rfl) (by kernel_rfl) (by kernel_rfl) (fun _ _ _ h => h) (Or.inl ⟨by rfl, ?ya7⟩) (by assumption) ?ra7
              case ya7 => (intro w' hSw; (try dsimp only at hSw); go_simp; try with_reducible rfl)
              try simp only [Act.put, List.setIfInBounds_toArray, List.set_cons_zero, List.set_cons_succ]
              refine wpAnyH_ready (rs := [1]) (by kernel_rfl) (by simp) ?_
              refine AllReadyH.cons (o := { dst := some 75, op := Op.call { callee := Callee.value (Operand.func 12), args := #[Operand.tmp 74], argTypes := #[23] }, type := 34, pos := "more.go:20", after := #[{ on := 0, ground := Ground.data }], guard := none }) rfl (fun K hK => ?_) AllReadyH.nil
              go_simp
              go_at_call 12
              refine (O1.out _ (WW.out.trans (hz0.mono WW.out.size))).mono ?_
              rintro e wa1 ⟨ya1, rfl, ra1, ba1⟩
              have hz1 : Below wr.heap.size wr wa1 := hz0.trans (ba1.mono hz0.size)
              have ka1 := Reads.of_own (enc := cF) (fun _ => rfl) ra1
              obtain ⟨Aa1, ea1, rfl⟩ := own_form ra1
              dsimp only
              go_wp2_with fail
              refine hK.out _ _ (CC.out _ hz1) (fun hHelda1 => ?_)
              clear hK K hHeld
              try simp only [Act.put, List.setIfInBounds_toArray, List.set_cons_zero, List.set_cons_succ]
              refine wpAnyH_ready (rs := [3]) (by kernel_rfl) (by simp) ?_
              refine AllReadyH.cons (o := { dst := some 77, op := Op.call { callee := Callee.value (Operand.func 12), args := #[Operand.tmp 76], argTypes := #[23] }, type := 34, pos := "more.go:20", after := #[{ on := 2, ground := Ground.data }, { on := 1, ground := Ground.chain }], guard := none }) rfl (fun K hK => ?_) AllReadyH.nil
              go_simp
              go_at_call 12
              refine (O2.out _ (WW.out.trans (hz1.mono WW.out.size))).mono ?_
              rintro e wa3 ⟨ya3, rfl, ra3, ba3⟩
              have hz3 : Below wr.heap.size wr wa3 := hz1.trans (ba3.mono hz1.size)
              have ka3 := Reads.of_own (enc := cF) (fun _ => rfl) ra3
              obtain ⟨Aa3, ea3, rfl⟩ := own_form ra3
              have ka1n := ka1.below ba3
              clear ka1
              have ka1 := ka1n
              clear ka1n
              dsimp only
              go_wp2_with fail
              refine hK.out _ _ (CC.out _ hz3) (fun hHelda3 => ?_)
              clear hK K hHelda1
              try simp only [Act.put, List.setIfInBounds_toArray, List.set_cons_zero, List.set_cons_succ]
              refine wpAnyH_ready (rs := [8]) (by kernel_rfl) (by simp) ?_
              refine AllReadyH.cons (o := { dst := some 82, op := Op.call { callee := Callee.value (Operand.func 20), args := #[Operand.tmp 75, Operand.tmp 77, Operand.tmp 81], argTypes := #[34, 34, 9] }, type := 4, pos := "more.go:20", after := #[{ on := 1, ground := Ground.data }, { on := 3, ground := Ground.data }, { on := 7, ground := Ground.data }, { on := 3, ground := Ground.chain }], guard := none }) rfl (fun K hK => ?_) AllReadyH.nil
              go_simp
              go_at_call 20
              refine (LK.out _ _ _ b o ka1 ka3 Nb.out No.out).mono ?_
              rintro e wa8 ⟨he8, ba8⟩
              rw [H1.out] at he8
              obtain rfl := he8
              have hz8 : Below wr.heap.size wr wa8 := hz3.trans (ba8.mono hz3.size)
              dsimp only
              go_wp2_with fail
              refine hK.out _ _ (CC.out _ hz8) (fun hHelda8 => ?_)
              clear hK K hHelda3
              try simp only [Act.put, List.setIfInBounds_toArray, List.set_cons_zero, List.set_cons_succ]
              refine wpAnyH_take (i := 9) (oi := { dst := some 83, op := Op.unOp UnOp.not 4 (Operand.tmp 82), type := 4, pos := "more.go:20", after := #[{ on := 8, ground := Ground.data }], guard := none }) (v := ?va9) rfl (by kernel_rfl) (by kernel_rfl) (by kernel_rfl) (fun _ _ _ h => h) (Or.inl ⟨by rfl, ?ya9⟩) (by assumption) ?ra9
              case ya9 => (intro w' hSw; (try dsimp only at hSw); go_simp; try with_reducible rfl)
              try simp only [Act.put, List.setIfInBounds_toArray, List.set_cons_zero, List.set_cons_succ]
              refine wpAnyH_take (i := 10) (oi := { dst := some 84, op := Op.move (Operand.tmp 83), type := 4, pos := "more.go:20", after := #[{ on := 9, ground := Ground.data }, { on := 8, ground := Ground.chain }], guard := none }) (v := ?va10) rfl (by kernel_rfl) (by kernel_rfl) (by kernel_rfl) (fun _ _ _ h => h) (Or.inl ⟨by rfl, ?ya10⟩) (by assumption) ?ra10
              case ya10 => (intro w' hSw; (try dsimp only at hSw); go_simp; try with_reducible rfl)
              try simp only [Act.put, List.setIfInBounds_toArray, List.set_cons_zero, List.set_cons_succ]
              refine wpAnyH_take (i := 11) (oi := { dst := some 85, op := Op.move (Operand.tmp 0), type := 23, pos := "more.go:20", after := #[{ on := 10, ground := Ground.guard }], guard := some (10, true) }) (v := undef) rfl (by kernel_rfl) (by kernel_rfl) (by kernel_rfl) (fun _ _ _ h => h) (Or.inr ⟨by rfl, rfl⟩) (by assumption) ?_
              try simp only [Act.put, List.setIfInBounds_toArray, List.set_cons_zero, List.set_cons_succ]
              refine wpAnyH_take (i := 12) (oi := { dst := some 86, op := Op.call { callee := Callee.value (Operand.func 12), args := #[Operand.tmp 85], argTypes := #[23] }, type := 34, pos := "more.go:20", after := #[{ on := 11, ground := Ground.data }, { on := 10, ground := Ground.chain }, { on := 10, ground := Ground.guard }], guard := some (10, true) }) (v := undef) rfl (by kernel_rfl) (by kernel_rfl) (by kernel_rfl) (fun _ _ _ h => h) (Or.inr ⟨by rfl, rfl⟩) (by assumption) ?_
              try simp only [Act.put, List.setIfInBounds_toArray, List.set_cons_zero, List.set_cons_succ]
              refine wpAnyH_take (i := 13) (oi := { dst := some 87, op := Op.move (Operand.tmp 2), type := 23, pos := "more.go:20", after := #[{ on := 10, ground := Ground.guard }], guard := some (10, true) }) (v := undef) rfl (by kernel_rfl) (by kernel_rfl) (by kernel_rfl) (fun _ _ _ h => h) (Or.inr ⟨by rfl, rfl⟩) (by assumption) ?_
              try simp only [Act.put, List.setIfInBounds_toArray, List.set_cons_zero, List.set_cons_succ]
              refine wpAnyH_take (i := 14) (oi := { dst := some 88, op := Op.call { callee := Callee.value (Operand.func 12), args := #[Operand.tmp 87], argTypes := #[23] }, type := 34, pos := "more.go:20", after := #[{ on := 13, ground := Ground.data }, { on := 12, ground := Ground.chain }, { on := 10, ground := Ground.guard }], guard := some (10, true) }) (v := undef) rfl (by kernel_rfl) (by kernel_rfl) (by kernel_rfl) (fun _ _ _ h => h) (Or.inr ⟨by rfl, rfl⟩) (by assumption) ?_
              try simp only [Act.put, List.setIfInBounds_toArray, List.set_cons_zero, List.set_cons_succ]
              refine wpAnyH_take (i := 15) (oi := { dst := some 89, op := Op.move (Operand.tmp 7), type := 27, pos := "more.go:20", after := #[{ on := 10, ground := Ground.guard }], guard := some (10, true) }) (v := undef) rfl (by kernel_rfl) (by kernel_rfl) (by kernel_rfl) (fun _ _ _ h => h) (Or.inr ⟨by rfl, rfl⟩) (by assumption) ?_
              try simp only [Act.put, List.setIfInBounds_toArray, List.set_cons_zero, List.set_cons_succ]
              refine wpAnyH_take (i := 16) (oi := { dst := some 90, op := Op.move (Operand.tmp 8), type := 3, pos := "more.go:20", after := #[{ on := 10, ground := Ground.guard }], guard := some (10, true) }) (v := undef) rfl (by kernel_rfl) (by kernel_rfl) (by kernel_rfl) (fun _ _ _ h => h) (Or.inr ⟨by rfl, rfl⟩) (by assumption) ?_
              try simp only [Act.put, List.setIfInBounds_toArray, List.set_cons_zero, List.set_cons_succ]
              refine wpAnyH_take (i := 17) (oi := { dst := some 91, op := Op.indexAddr 27 (Operand.tmp 89) (Operand.tmp 90), type := 0, pos := "more.go:20", after := #[{ on := 15, ground := Ground.data }, { on := 16, ground := Ground.data }, { on := 10, ground := Ground.guard }], guard := some (10, true) }) (v := undef) rfl (by kernel_rfl) (by kernel_rfl) (by kernel_rfl) (fun _ _ _ h => h) (Or.inr ⟨by rfl, rfl⟩) (by assumption) ?_
              try simp only [Act.put, List.setIfInBounds_toArray, List.set_cons_zero, List.set_cons_succ]
              refine wpAnyH_take (i := 18) (oi := { dst := some 92, op := Op.load 9 (Operand.tmp 91), type := 9, pos := "more.go:20", after := #[{ on := 17, ground := Ground.data }, { on := 10, ground := Ground.guard }], guard := some (10, true) }) (v := undef) rfl (by kernel_rfl) (by kernel_rfl) (by kernel_rfl) (fun _ _ _ h => h) (Or.inr ⟨by rfl, rfl⟩) (by assumption) ?_
              try simp only [Act.put, List.setIfInBounds_toArray, List.set_cons_zero, List.set_cons_succ]
              refine wpAnyH_take (i := 19) (oi := { dst := some 93, op := Op.call { callee := Callee.value (Operand.func 20), args := #[Operand.tmp 86, Operand.tmp 88, Operand.tmp 92], argTypes := #[34, 34, 9] }, type := 4, pos := "more.go:20", after := #[{ on := 12, ground := Ground.data }, { on := 14, ground := Ground.data }, { on := 18, ground := Ground.data }, { on := 14, ground := Ground.chain }, { on := 10, ground := Ground.guard }], guard := some (10, true) }) (v := undef) rfl (by kernel_rfl) (by kernel_rfl) (by kernel_rfl) (fun _ _ _ h => h) (Or.inr ⟨by rfl, rfl⟩) (by assumption) ?_
              try simp only [Act.put, List.setIfInBounds_toArray, List.set_cons_zero, List.set_cons_succ]
              refine wpAnyH_take (i := 20) (oi := { dst := some 94, op := Op.unOp UnOp.not 4 (Operand.tmp 93), type := 4, pos := "more.go:20", after := #[{ on := 19, ground := Ground.data }, { on := 10, ground := Ground.guard }], guard := some (10, true) }) (v := undef) rfl (by kernel_rfl) (by kernel_rfl) (by kernel_rfl) (fun _ _ _ h => h) (Or.inr ⟨by rfl, rfl⟩) (by assumption) ?_
              try simp only [Act.put, List.setIfInBounds_toArray, List.set_cons_zero, List.set_cons_succ]
              refine wpAnyH_take (i := 21) (oi := { dst := some 95, op := Op.pick (Operand.tmp 84) (Operand.tmp 94) (Operand.const (Value.bool false)), type := 4, pos := "more.go:20", after := #[{ on := 10, ground := Ground.data }, { on := 20, ground := Ground.data }], guard := none }) (v := ?va21) rfl (by kernel_rfl) (by kernel_rfl) (by kernel_rfl) (fun _ _ _ h => h) (Or.inl ⟨by rfl, ?ya21⟩) (by assumption) ?ra21
              case ya21 => (intro w' hSw; (try dsimp only at hSw); go_simp; try with_reducible rfl)
              try simp only [Act.put, List.setIfInBounds_toArray, List.set_cons_zero, List.set_cons_succ]
              refine wpAnyH_done (by kernel_rfl) ?_ _
              go_wp2_with fail
              go_roundw
              case rel => exact ⟨k + 1, by have := HLT.out; omega, by go_num, Lib.hid (HB.out.trans (hz8.mono HB.out.size)), HI2⟩
              case measure => have := HLT.out; simp [intOf]; omega
            · have H1 := Lib.hid (decide_eq_false h1)
              by_cases h2 : getF b p = getF t p
              · have H2 := Lib.hid (decide_eq_true h2)
                have HI2 := Lib.hid (show ∀ (j : Nat) (q : ByteArray), j < k + 1 → P[j]? = some q → getF b q = getF o q ∨ getF b q = getF t q from fun j q hj hq => by
                  rcases Nat.lt_or_ge j k with e1 | e1
                  · exact HI.out j q e1 hq
                  · obtain rfl : j = k := by omega
                    rw [HP2.out] at hq
                    cases hq
                    exact .inr h2)
                clear h1 h2
                go_upto_region 9 with fail
                have hz0 : Below wr.heap.size wr wr.drew := (Below.refl _ _).drew
                refine wp_region_held_drew (S := fun w' => w'.cell? ⟨gP, k, none⟩ = some (.string p)) (by kernel_rfl) (CC.out _ hz0) (fun hHeld => ?_)
                refine wpAnyH_take (i := 0) (oi := { dst := some 74, op := Op.move (Operand.tmp 0), type := 23, pos := "more.go:20", after := #[], guard := none }) (v := ?vb0) rfl (by kernel_rfl) (by kernel_rfl) (by kernel_rfl) (fun _ _ _ h => h) (Or.inl ⟨by rfl, ?yb0⟩) (by assumption) ?rb0
                case yb0 => (intro w' hSw; (try dsimp only at hSw); go_simp; try with_reducible rfl)
                try simp only [Act.put, List.setIfInBounds_toArray, List.set_cons_zero, List.set_cons_succ]
                refine wpAnyH_take (i := 2) (oi := { dst := some 76, op := Op.move (Operand.tmp 1), type := 23, pos := "more.go:20", after := #[], guard := none }) (v := ?vb2) rfl (by kernel_rfl) (by kernel_rfl) (by kernel_rfl) (fun _ _ _ h => h) (Or.inl ⟨by rfl, ?yb2⟩) (by assumption) ?rb2
                case yb2 => (intro w' hSw; (try dsimp only at hSw); go_simp; try with_reducible rfl)
                try simp only [Act.put, List.setIfInBounds_toArray, List.set_cons_zero, List.set_cons_succ]
                refine wpAnyH_take (i := 4) (oi := { dst := some 78, op := Op.move (Operand.tmp 7), type := 27, pos := "more.go:20", after := #[], guard := none }) (v := ?vb4) rfl (by kernel_rfl) (by kernel_rfl) (by kernel_rfl) (fun _ _ _ h => h) (Or.inl ⟨by rfl, ?yb4⟩) (by assumption) ?rb4
                case yb4 => (intro w' hSw; (try dsimp only at hSw); go_simp; try with_reducible rfl)
                try simp only [Act.put, List.setIfInBounds_toArray, List.set_cons_zero, List.set_cons_succ]
                refine wpAnyH_take (i := 5) (oi := { dst := some 79, op := Op.move (Operand.tmp 8), type := 3, pos := "more.go:20", after := #[], guard := none }) (v := ?vb5) rfl (by kernel_rfl) (by kernel_rfl) (by kernel_rfl) (fun _ _ _ h => h) (Or.inl ⟨by rfl, ?yb5⟩) (by assumption) ?rb5
                case yb5 => (intro w' hSw; (try dsimp only at hSw); go_simp; try with_reducible rfl)
                try simp only [Act.put, List.setIfInBounds_toArray, List.set_cons_zero, List.set_cons_succ]
                refine wpAnyH_take (i := 6) (oi := { dst := some 80, op := Op.indexAddr 27 (Operand.tmp 78) (Operand.tmp 79), type := 0, pos := "more.go:20", after := #[{ on := 4, ground := Ground.data }, { on := 5, ground := Ground.data }], guard := none }) (v := ?vb6) rfl (by kernel_rfl) (by kernel_rfl) (by kernel_rfl) (fun _ _ _ h => h) (Or.inl ⟨by rfl, ?yb6⟩) (by assumption) ?rb6
                case yb6 => (intro w' hSw; (try dsimp only at hSw); go_simp; try with_reducible rfl)
                try simp only [Act.put, List.setIfInBounds_toArray, List.set_cons_zero, List.set_cons_succ]
                refine wpAnyH_take (i := 7) (oi := { dst := some 81, op := Op.load 9 (Operand.tmp 80), type := 9, pos := "more.go:20", after := #[{ on := 6, ground := Ground.data }], guard := none }) (v := ?vb7) rfl (by kernel_rfl) (by kernel_rfl) (by kernel_rfl) (fun _ _ _ h => h) (Or.inl ⟨by rfl, ?yb7⟩) (by assumption) ?rb7
                case yb7 => (intro w' hSw; (try dsimp only at hSw); go_simp; try with_reducible rfl)
                try simp only [Act.put, List.setIfInBounds_toArray, List.set_cons_zero, List.set_cons_succ]
                refine wpAnyH_ready (rs := [1]) (by kernel_rfl) (by simp) ?_
                refine AllReadyH.cons (o := { dst := some 75, op := Op.call { callee := Callee.value (Operand.func 12), args := #[Operand.tmp 74], argTypes := #[23] }, type := 34, pos := "more.go:20", after := #[{ on := 0, ground := Ground.data }], guard := none }) rfl (fun K hK => ?_) AllReadyH.nil
                go_simp
                go_at_call 12
                refine (O1.out _ (WW.out.trans (hz0.mono WW.out.size))).mono ?_
                rintro e wb1 ⟨yb1, rfl, rb1, bb1⟩
                have hz1 : Below wr.heap.size wr wb1 := hz0.trans (bb1.mono hz0.size)
                have kb1 := Reads.of_own (enc := cF) (fun _ => rfl) rb1
                obtain ⟨Ab1, eb1, rfl⟩ := own_form rb1
                dsimp only
                go_wp2_with fail
                refine hK.out _ _ (CC.out _ hz1) (fun hHeldb1 => ?_)
                clear hK K hHeld
                try simp only [Act.put, List.setIfInBounds_toArray, List.set_cons_zero, List.set_cons_succ]
                refine wpAnyH_ready (rs := [3]) (by kernel_rfl) (by simp) ?_
                refine AllReadyH.cons (o := { dst := some 77, op := Op.call { callee := Callee.value (Operand.func 12), args := #[Operand.tmp 76], argTypes := #[23] }, type := 34, pos := "more.go:20", after := #[{ on := 2, ground := Ground.data }, { on := 1, ground := Ground.chain }], guard := none }) rfl (fun K hK => ?_) AllReadyH.nil
                go_simp
                go_at_call 12
                refine (O2.out _ (WW.out.trans (hz1.mono WW.out.size))).mono ?_
                rintro e wb3 ⟨yb3, rfl, rb3, bb3⟩
                have hz3 : Below wr.heap.size wr wb3 := hz1.trans (bb3.mono hz1.size)
                have kb3 := Reads.of_own (enc := cF) (fun _ => rfl) rb3
                obtain ⟨Ab3, eb3, rfl⟩ := own_form rb3
                have kb1n := kb1.below bb3
                clear kb1
                have kb1 := kb1n
                clear kb1n
                dsimp only
                go_wp2_with fail
                refine hK.out _ _ (CC.out _ hz3) (fun hHeldb3 => ?_)
                clear hK K hHeldb1
                try simp only [Act.put, List.setIfInBounds_toArray, List.set_cons_zero, List.set_cons_succ]
                refine wpAnyH_ready (rs := [8]) (by kernel_rfl) (by simp) ?_
                refine AllReadyH.cons (o := { dst := some 82, op := Op.call { callee := Callee.value (Operand.func 20), args := #[Operand.tmp 75, Operand.tmp 77, Operand.tmp 81], argTypes := #[34, 34, 9] }, type := 4, pos := "more.go:20", after := #[{ on := 1, ground := Ground.data }, { on := 3, ground := Ground.data }, { on := 7, ground := Ground.data }, { on := 3, ground := Ground.chain }], guard := none }) rfl (fun K hK => ?_) AllReadyH.nil
                go_simp
                go_at_call 20
                refine (LK.out _ _ _ b o kb1 kb3 Nb.out No.out).mono ?_
                rintro e wb8 ⟨he8, bb8⟩
                rw [H1.out] at he8
                obtain rfl := he8
                have hz8 : Below wr.heap.size wr wb8 := hz3.trans (bb8.mono hz3.size)
                dsimp only
                go_wp2_with fail
                refine hK.out _ _ (CC.out _ hz8) (fun hHeldb8 => ?_)
                clear hK K hHeldb3
                try simp only [Act.put, List.setIfInBounds_toArray, List.set_cons_zero, List.set_cons_succ]
                refine wpAnyH_take (i := 9) (oi := { dst := some 83, op := Op.unOp UnOp.not 4 (Operand.tmp 82), type := 4, pos := "more.go:20", after := #[{ on := 8, ground := Ground.data }], guard := none }) (v := ?vb9) rfl (by kernel_rfl) (by kernel_rfl) (by kernel_rfl) (fun _ _ _ h => h) (Or.inl ⟨by rfl, ?yb9⟩) (by assumption) ?rb9
                case yb9 => (intro w' hSw; (try dsimp only at hSw); go_simp; try with_reducible rfl)
                try simp only [Act.put, List.setIfInBounds_toArray, List.set_cons_zero, List.set_cons_succ]
                refine wpAnyH_take (i := 10) (oi := { dst := some 84, op := Op.move (Operand.tmp 83), type := 4, pos := "more.go:20", after := #[{ on := 9, ground := Ground.data }, { on := 8, ground := Ground.chain }], guard := none }) (v := ?vb10) rfl (by kernel_rfl) (by kernel_rfl) (by kernel_rfl) (fun _ _ _ h => h) (Or.inl ⟨by rfl, ?yb10⟩) (by assumption) ?rb10
                case yb10 => (intro w' hSw; (try dsimp only at hSw); go_simp; try with_reducible rfl)
                try simp only [Act.put, List.setIfInBounds_toArray, List.set_cons_zero, List.set_cons_succ]
                refine wpAnyH_take (i := 11) (oi := { dst := some 85, op := Op.move (Operand.tmp 0), type := 23, pos := "more.go:20", after := #[{ on := 10, ground := Ground.guard }], guard := some (10, true) }) (v := ?vb11) rfl (by kernel_rfl) (by kernel_rfl) (by kernel_rfl) (fun _ _ _ h => h) (Or.inl ⟨by rfl, ?yb11⟩) (by assumption) ?rb11
                case yb11 => (intro w' hSw; (try dsimp only at hSw); go_simp; try with_reducible rfl)
                try simp only [Act.put, List.setIfInBounds_toArray, List.set_cons_zero, List.set_cons_succ]
                refine wpAnyH_take (i := 13) (oi := { dst := some 87, op := Op.move (Operand.tmp 2), type := 23, pos := "more.go:20", after := #[{ on := 10, ground := Ground.guard }], guard := some (10, true) }) (v := ?vb13) rfl (by kernel_rfl) (by kernel_rfl) (by kernel_rfl) (fun _ _ _ h => h) (Or.inl ⟨by rfl, ?yb13⟩) (by assumption) ?rb13
                case yb13 => (intro w' hSw; (try dsimp only at hSw); go_simp; try with_reducible rfl)
                try simp only [Act.put, List.setIfInBounds_toArray, List.set_cons_zero, List.set_cons_succ]
                refine wpAnyH_take (i := 15) (oi := { dst := some 89, op := Op.move (Operand.tmp 7), type := 27, pos := "more.go:20", after := #[{ on := 10, ground := Ground.guard }], guard := some (10, true) }) (v := ?vb15) rfl (by kernel_rfl) (by kernel_rfl) (by kernel_rfl) (fun _ _ _ h => h) (Or.inl ⟨by rfl, ?yb15⟩) (by assumption) ?rb15
                case yb15 => (intro w' hSw; (try dsimp only at hSw); go_simp; try with_reducible rfl)
                try simp only [Act.put, List.setIfInBounds_toArray, List.set_cons_zero, List.set_cons_succ]
                refine wpAnyH_take (i := 16) (oi := { dst := some 90, op := Op.move (Operand.tmp 8), type := 3, pos := "more.go:20", after := #[{ on := 10, ground := Ground.guard }], guard := some (10, true) }) (v := ?vb16) rfl (by kernel_rfl) (by kernel_rfl) (by kernel_rfl) (fun _ _ _ h => h) (Or.inl ⟨by rfl, ?yb16⟩) (by assumption) ?rb16
                case yb16 => (intro w' hSw; (try dsimp only at hSw); go_simp; try with_reducible rfl)
                try simp only [Act.put, List.setIfInBounds_toArray, List.set_cons_zero, List.set_cons_succ]
                refine wpAnyH_take (i := 17) (oi := { dst := some 91, op := Op.indexAddr 27 (Operand.tmp 89) (Operand.tmp 90), type := 0, pos := "more.go:20", after := #[{ on := 15, ground := Ground.data }, { on := 16, ground := Ground.data }, { on := 10, ground := Ground.guard }], guard := some (10, true) }) (v := ?vb17) rfl (by kernel_rfl) (by kernel_rfl) (by kernel_rfl) (fun _ _ _ h => h) (Or.inl ⟨by rfl, ?yb17⟩) (by assumption) ?rb17
                case yb17 => (intro w' hSw; (try dsimp only at hSw); go_simp; try with_reducible rfl)
                try simp only [Act.put, List.setIfInBounds_toArray, List.set_cons_zero, List.set_cons_succ]
                refine wpAnyH_take (i := 18) (oi := { dst := some 92, op := Op.load 9 (Operand.tmp 91), type := 9, pos := "more.go:20", after := #[{ on := 17, ground := Ground.data }, { on := 10, ground := Ground.guard }], guard := some (10, true) }) (v := ?vb18) rfl (by kernel_rfl) (by kernel_rfl) (by kernel_rfl) (fun _ _ _ h => h) (Or.inl ⟨by rfl, ?yb18⟩) (by assumption) ?rb18
                case yb18 => (intro w' hSw; (try dsimp only at hSw); go_simp; try with_reducible rfl)
                try simp only [Act.put, List.setIfInBounds_toArray, List.set_cons_zero, List.set_cons_succ]
                refine wpAnyH_ready (rs := [12]) (by kernel_rfl) (by simp) ?_
                refine AllReadyH.cons (o := { dst := some 86, op := Op.call { callee := Callee.value (Operand.func 12), args := #[Operand.tmp 85], argTypes := #[23] }, type := 34, pos := "more.go:20", after := #[{ on := 11, ground := Ground.data }, { on := 10, ground := Ground.chain }, { on := 10, ground := Ground.guard }], guard := some (10, true) }) rfl (fun K hK => ?_) AllReadyH.nil
                go_simp
                go_at_call 12
                refine (O1.out _ (WW.out.trans (hz8.mono WW.out.size))).mono ?_
                rintro e wb12 ⟨yb12, rfl, rb12, bb12⟩
                have hz12 : Below wr.heap.size wr wb12 := hz8.trans (bb12.mono hz8.size)
                have kb12 := Reads.of_own (enc := cF) (fun _ => rfl) rb12
                obtain ⟨Ab12, eb12, rfl⟩ := own_form rb12
                dsimp only
                go_wp2_with fail
                refine hK.out _ _ (CC.out _ hz12) (fun hHeldb12 => ?_)
                clear hK K hHeldb8
                try simp only [Act.put, List.setIfInBounds_toArray, List.set_cons_zero, List.set_cons_succ]
                refine wpAnyH_ready (rs := [14]) (by kernel_rfl) (by simp) ?_
                refine AllReadyH.cons (o := { dst := some 88, op := Op.call { callee := Callee.value (Operand.func 12), args := #[Operand.tmp 87], argTypes := #[23] }, type := 34, pos := "more.go:20", after := #[{ on := 13, ground := Ground.data }, { on := 12, ground := Ground.chain }, { on := 10, ground := Ground.guard }], guard := some (10, true) }) rfl (fun K hK => ?_) AllReadyH.nil
                go_simp
                go_at_call 12
                refine (O3.out _ (WW.out.trans (hz12.mono WW.out.size))).mono ?_
                rintro e wb14 ⟨yb14, rfl, rb14, bb14⟩
                have hz14 : Below wr.heap.size wr wb14 := hz12.trans (bb14.mono hz12.size)
                have kb14 := Reads.of_own (enc := cF) (fun _ => rfl) rb14
                obtain ⟨Ab14, eb14, rfl⟩ := own_form rb14
                have kb12n := kb12.below bb14
                clear kb12
                have kb12 := kb12n
                clear kb12n
                dsimp only
                go_wp2_with fail
                refine hK.out _ _ (CC.out _ hz14) (fun hHeldb14 => ?_)
                clear hK K hHeldb12
                try simp only [Act.put, List.setIfInBounds_toArray, List.set_cons_zero, List.set_cons_succ]
                refine wpAnyH_ready (rs := [19]) (by kernel_rfl) (by simp) ?_
                refine AllReadyH.cons (o := { dst := some 93, op := Op.call { callee := Callee.value (Operand.func 20), args := #[Operand.tmp 86, Operand.tmp 88, Operand.tmp 92], argTypes := #[34, 34, 9] }, type := 4, pos := "more.go:20", after := #[{ on := 12, ground := Ground.data }, { on := 14, ground := Ground.data }, { on := 18, ground := Ground.data }, { on := 14, ground := Ground.chain }, { on := 10, ground := Ground.guard }], guard := some (10, true) }) rfl (fun K hK => ?_) AllReadyH.nil
                go_simp
                go_at_call 20
                refine (LK.out _ _ _ b t kb12 kb14 Nb.out Nt.out).mono ?_
                rintro e wb19 ⟨he19, bb19⟩
                rw [H2.out] at he19
                obtain rfl := he19
                have hz19 : Below wr.heap.size wr wb19 := hz14.trans (bb19.mono hz14.size)
                dsimp only
                go_wp2_with fail
                refine hK.out _ _ (CC.out _ hz19) (fun hHeldb19 => ?_)
                clear hK K hHeldb14
                try simp only [Act.put, List.setIfInBounds_toArray, List.set_cons_zero, List.set_cons_succ]
                refine wpAnyH_take (i := 20) (oi := { dst := some 94, op := Op.unOp UnOp.not 4 (Operand.tmp 93), type := 4, pos := "more.go:20", after := #[{ on := 19, ground := Ground.data }, { on := 10, ground := Ground.guard }], guard := some (10, true) }) (v := ?vb20) rfl (by kernel_rfl) (by kernel_rfl) (by kernel_rfl) (fun _ _ _ h => h) (Or.inl ⟨by rfl, ?yb20⟩) (by assumption) ?rb20
                case yb20 => (intro w' hSw; (try dsimp only at hSw); go_simp; try with_reducible rfl)
                try simp only [Act.put, List.setIfInBounds_toArray, List.set_cons_zero, List.set_cons_succ]
                refine wpAnyH_take (i := 21) (oi := { dst := some 95, op := Op.pick (Operand.tmp 84) (Operand.tmp 94) (Operand.const (Value.bool false)), type := 4, pos := "more.go:20", after := #[{ on := 10, ground := Ground.data }, { on := 20, ground := Ground.data }], guard := none }) (v := ?vb21) rfl (by kernel_rfl) (by kernel_rfl) (by kernel_rfl) (fun _ _ _ h => h) (Or.inl ⟨by rfl, ?yb21⟩) (by assumption) ?rb21
                case yb21 => (intro w' hSw; (try dsimp only at hSw); go_simp; try with_reducible rfl)
                try simp only [Act.put, List.setIfInBounds_toArray, List.set_cons_zero, List.set_cons_succ]
                refine wpAnyH_done (by kernel_rfl) ?_ _
                go_wp2_with fail
                go_roundw
                case rel => exact ⟨k + 1, by have := HLT.out; omega, by go_num, Lib.hid (HB.out.trans (hz19.mono HB.out.size)), HI2⟩
                case measure => have := HLT.out; simp [intOf]; omega
              · have H2 := Lib.hid (decide_eq_false h2)
                clear h1 h2
                go_upto_region 9 with fail
                have hz0 : Below wr.heap.size wr wr.drew := (Below.refl _ _).drew
                refine wp_region_held_drew (S := fun w' => w'.cell? ⟨gP, k, none⟩ = some (.string p)) (by kernel_rfl) (CC.out _ hz0) (fun hHeld => ?_)
                refine wpAnyH_take (i := 0) (oi := { dst := some 74, op := Op.move (Operand.tmp 0), type := 23, pos := "more.go:20", after := #[], guard := none }) (v := ?vc0) rfl (by kernel_rfl) (by kernel_rfl) (by kernel_rfl) (fun _ _ _ h => h) (Or.inl ⟨by rfl, ?yc0⟩) (by assumption) ?rc0
                case yc0 => (intro w' hSw; (try dsimp only at hSw); go_simp; try with_reducible rfl)
                try simp only [Act.put, List.setIfInBounds_toArray, List.set_cons_zero, List.set_cons_succ]
                refine wpAnyH_take (i := 2) (oi := { dst := some 76, op := Op.move (Operand.tmp 1), type := 23, pos := "more.go:20", after := #[], guard := none }) (v := ?vc2) rfl (by kernel_rfl) (by kernel_rfl) (by kernel_rfl) (fun _ _ _ h => h) (Or.inl ⟨by rfl, ?yc2⟩) (by assumption) ?rc2
                case yc2 => (intro w' hSw; (try dsimp only at hSw); go_simp; try with_reducible rfl)
                try simp only [Act.put, List.setIfInBounds_toArray, List.set_cons_zero, List.set_cons_succ]
                refine wpAnyH_take (i := 4) (oi := { dst := some 78, op := Op.move (Operand.tmp 7), type := 27, pos := "more.go:20", after := #[], guard := none }) (v := ?vc4) rfl (by kernel_rfl) (by kernel_rfl) (by kernel_rfl) (fun _ _ _ h => h) (Or.inl ⟨by rfl, ?yc4⟩) (by assumption) ?rc4
                case yc4 => (intro w' hSw; (try dsimp only at hSw); go_simp; try with_reducible rfl)
                try simp only [Act.put, List.setIfInBounds_toArray, List.set_cons_zero, List.set_cons_succ]
                refine wpAnyH_take (i := 5) (oi := { dst := some 79, op := Op.move (Operand.tmp 8), type := 3, pos := "more.go:20", after := #[], guard := none }) (v := ?vc5) rfl (by kernel_rfl) (by kernel_rfl) (by kernel_rfl) (fun _ _ _ h => h) (Or.inl ⟨by rfl, ?yc5⟩) (by assumption) ?rc5
                case yc5 => (intro w' hSw; (try dsimp only at hSw); go_simp; try with_reducible rfl)
                try simp only [Act.put, List.setIfInBounds_toArray, List.set_cons_zero, List.set_cons_succ]
                refine wpAnyH_take (i := 6) (oi := { dst := some 80, op := Op.indexAddr 27 (Operand.tmp 78) (Operand.tmp 79), type := 0, pos := "more.go:20", after := #[{ on := 4, ground := Ground.data }, { on := 5, ground := Ground.data }], guard := none }) (v := ?vc6) rfl (by kernel_rfl) (by kernel_rfl) (by kernel_rfl) (fun _ _ _ h => h) (Or.inl ⟨by rfl, ?yc6⟩) (by assumption) ?rc6
                case yc6 => (intro w' hSw; (try dsimp only at hSw); go_simp; try with_reducible rfl)
                try simp only [Act.put, List.setIfInBounds_toArray, List.set_cons_zero, List.set_cons_succ]
                refine wpAnyH_take (i := 7) (oi := { dst := some 81, op := Op.load 9 (Operand.tmp 80), type := 9, pos := "more.go:20", after := #[{ on := 6, ground := Ground.data }], guard := none }) (v := ?vc7) rfl (by kernel_rfl) (by kernel_rfl) (by kernel_rfl) (fun _ _ _ h => h) (Or.inl ⟨by rfl, ?yc7⟩) (by assumption) ?rc7
                case yc7 => (intro w' hSw; (try dsimp only at hSw); go_simp; try with_reducible rfl)
                try simp only [Act.put, List.setIfInBounds_toArray, List.set_cons_zero, List.set_cons_succ]
                refine wpAnyH_ready (rs := [1]) (by kernel_rfl) (by simp) ?_
                refine AllReadyH.cons (o := { dst := some 75, op := Op.call { callee := Callee.value (Operand.func 12), args := #[Operand.tmp 74], argTypes := #[23] }, type := 34, pos := "more.go:20", after := #[{ on := 0, ground := Ground.data }], guard := none }) rfl (fun K hK => ?_) AllReadyH.nil
                go_simp
                go_at_call 12
                refine (O1.out _ (WW.out.trans (hz0.mono WW.out.size))).mono ?_
                rintro e wc1 ⟨yc1, rfl, rc1, bc1⟩
                have hz1 : Below wr.heap.size wr wc1 := hz0.trans (bc1.mono hz0.size)
                have kc1 := Reads.of_own (enc := cF) (fun _ => rfl) rc1
                obtain ⟨Ac1, ec1, rfl⟩ := own_form rc1
                dsimp only
                go_wp2_with fail
                refine hK.out _ _ (CC.out _ hz1) (fun hHeldc1 => ?_)
                clear hK K hHeld
                try simp only [Act.put, List.setIfInBounds_toArray, List.set_cons_zero, List.set_cons_succ]
                refine wpAnyH_ready (rs := [3]) (by kernel_rfl) (by simp) ?_
                refine AllReadyH.cons (o := { dst := some 77, op := Op.call { callee := Callee.value (Operand.func 12), args := #[Operand.tmp 76], argTypes := #[23] }, type := 34, pos := "more.go:20", after := #[{ on := 2, ground := Ground.data }, { on := 1, ground := Ground.chain }], guard := none }) rfl (fun K hK => ?_) AllReadyH.nil
                go_simp
                go_at_call 12
                refine (O2.out _ (WW.out.trans (hz1.mono WW.out.size))).mono ?_
                rintro e wc3 ⟨yc3, rfl, rc3, bc3⟩
                have hz3 : Below wr.heap.size wr wc3 := hz1.trans (bc3.mono hz1.size)
                have kc3 := Reads.of_own (enc := cF) (fun _ => rfl) rc3
                obtain ⟨Ac3, ec3, rfl⟩ := own_form rc3
                have kc1n := kc1.below bc3
                clear kc1
                have kc1 := kc1n
                clear kc1n
                dsimp only
                go_wp2_with fail
                refine hK.out _ _ (CC.out _ hz3) (fun hHeldc3 => ?_)
                clear hK K hHeldc1
                try simp only [Act.put, List.setIfInBounds_toArray, List.set_cons_zero, List.set_cons_succ]
                refine wpAnyH_ready (rs := [8]) (by kernel_rfl) (by simp) ?_
                refine AllReadyH.cons (o := { dst := some 82, op := Op.call { callee := Callee.value (Operand.func 20), args := #[Operand.tmp 75, Operand.tmp 77, Operand.tmp 81], argTypes := #[34, 34, 9] }, type := 4, pos := "more.go:20", after := #[{ on := 1, ground := Ground.data }, { on := 3, ground := Ground.data }, { on := 7, ground := Ground.data }, { on := 3, ground := Ground.chain }], guard := none }) rfl (fun K hK => ?_) AllReadyH.nil
                go_simp
                go_at_call 20
                refine (LK.out _ _ _ b o kc1 kc3 Nb.out No.out).mono ?_
                rintro e wc8 ⟨he8, bc8⟩
                rw [H1.out] at he8
                obtain rfl := he8
                have hz8 : Below wr.heap.size wr wc8 := hz3.trans (bc8.mono hz3.size)
                dsimp only
                go_wp2_with fail
                refine hK.out _ _ (CC.out _ hz8) (fun hHeldc8 => ?_)
                clear hK K hHeldc3
                try simp only [Act.put, List.setIfInBounds_toArray, List.set_cons_zero, List.set_cons_succ]
                refine wpAnyH_take (i := 9) (oi := { dst := some 83, op := Op.unOp UnOp.not 4 (Operand.tmp 82), type := 4, pos := "more.go:20", after := #[{ on := 8, ground := Ground.data }], guard := none }) (v := ?vc9) rfl (by kernel_rfl) (by kernel_rfl) (by kernel_rfl) (fun _ _ _ h => h) (Or.inl ⟨by rfl, ?yc9⟩) (by assumption) ?rc9
                case yc9 => (intro w' hSw; (try dsimp only at hSw); go_simp; try with_reducible rfl)
                try simp only [Act.put, List.setIfInBounds_toArray, List.set_cons_zero, List.set_cons_succ]
                refine wpAnyH_take (i := 10) (oi := { dst := some 84, op := Op.move (Operand.tmp 83), type := 4, pos := "more.go:20", after := #[{ on := 9, ground := Ground.data }, { on := 8, ground := Ground.chain }], guard := none }) (v := ?vc10) rfl (by kernel_rfl) (by kernel_rfl) (by kernel_rfl) (fun _ _ _ h => h) (Or.inl ⟨by rfl, ?yc10⟩) (by assumption) ?rc10
                case yc10 => (intro w' hSw; (try dsimp only at hSw); go_simp; try with_reducible rfl)
                try simp only [Act.put, List.setIfInBounds_toArray, List.set_cons_zero, List.set_cons_succ]
                refine wpAnyH_take (i := 11) (oi := { dst := some 85, op := Op.move (Operand.tmp 0), type := 23, pos := "more.go:20", after := #[{ on := 10, ground := Ground.guard }], guard := some (10, true) }) (v := ?vc11) rfl (by kernel_rfl) (by kernel_rfl) (by kernel_rfl) (fun _ _ _ h => h) (Or.inl ⟨by rfl, ?yc11⟩) (by assumption) ?rc11
                case yc11 => (intro w' hSw; (try dsimp only at hSw); go_simp; try with_reducible rfl)
                try simp only [Act.put, List.setIfInBounds_toArray, List.set_cons_zero, List.set_cons_succ]
                refine wpAnyH_take (i := 13) (oi := { dst := some 87, op := Op.move (Operand.tmp 2), type := 23, pos := "more.go:20", after := #[{ on := 10, ground := Ground.guard }], guard := some (10, true) }) (v := ?vc13) rfl (by kernel_rfl) (by kernel_rfl) (by kernel_rfl) (fun _ _ _ h => h) (Or.inl ⟨by rfl, ?yc13⟩) (by assumption) ?rc13
                case yc13 => (intro w' hSw; (try dsimp only at hSw); go_simp; try with_reducible rfl)
                try simp only [Act.put, List.setIfInBounds_toArray, List.set_cons_zero, List.set_cons_succ]
                refine wpAnyH_take (i := 15) (oi := { dst := some 89, op := Op.move (Operand.tmp 7), type := 27, pos := "more.go:20", after := #[{ on := 10, ground := Ground.guard }], guard := some (10, true) }) (v := ?vc15) rfl (by kernel_rfl) (by kernel_rfl) (by kernel_rfl) (fun _ _ _ h => h) (Or.inl ⟨by rfl, ?yc15⟩) (by assumption) ?rc15
                case yc15 => (intro w' hSw; (try dsimp only at hSw); go_simp; try with_reducible rfl)
                try simp only [Act.put, List.setIfInBounds_toArray, List.set_cons_zero, List.set_cons_succ]
                refine wpAnyH_take (i := 16) (oi := { dst := some 90, op := Op.move (Operand.tmp 8), type := 3, pos := "more.go:20", after := #[{ on := 10, ground := Ground.guard }], guard := some (10, true) }) (v := ?vc16) rfl (by kernel_rfl) (by kernel_rfl) (by kernel_rfl) (fun _ _ _ h => h) (Or.inl ⟨by rfl, ?yc16⟩) (by assumption) ?rc16
                case yc16 => (intro w' hSw; (try dsimp only at hSw); go_simp; try with_reducible rfl)
                try simp only [Act.put, List.setIfInBounds_toArray, List.set_cons_zero, List.set_cons_succ]
                refine wpAnyH_take (i := 17) (oi := { dst := some 91, op := Op.indexAddr 27 (Operand.tmp 89) (Operand.tmp 90), type := 0, pos := "more.go:20", after := #[{ on := 15, ground := Ground.data }, { on := 16, ground := Ground.data }, { on := 10, ground := Ground.guard }], guard := some (10, true) }) (v := ?vc17) rfl (by kernel_rfl) (by kernel_rfl) (by kernel_rfl) (fun _ _ _ h => h) (Or.inl ⟨by rfl, ?yc17⟩) (by assumption) ?rc17
                case yc17 => (intro w' hSw; (try dsimp only at hSw); go_simp; try with_reducible rfl)
                try simp only [Act.put, List.setIfInBounds_toArray, List.set_cons_zero, List.set_cons_succ]
                refine wpAnyH_take (i := 18) (oi := { dst := some 92, op := Op.load 9 (Operand.tmp 91), type := 9, pos := "more.go:20", after := #[{ on := 17, ground := Ground.data }, { on := 10, ground := Ground.guard }], guard := some (10, true) }) (v := ?vc18) rfl (by kernel_rfl) (by kernel_rfl) (by kernel_rfl) (fun _ _ _ h => h) (Or.inl ⟨by rfl, ?yc18⟩) (by assumption) ?rc18
                case yc18 => (intro w' hSw; (try dsimp only at hSw); go_simp; try with_reducible rfl)
                try simp only [Act.put, List.setIfInBounds_toArray, List.set_cons_zero, List.set_cons_succ]
                refine wpAnyH_ready (rs := [12]) (by kernel_rfl) (by simp) ?_
                refine AllReadyH.cons (o := { dst := some 86, op := Op.call { callee := Callee.value (Operand.func 12), args := #[Operand.tmp 85], argTypes := #[23] }, type := 34, pos := "more.go:20", after := #[{ on := 11, ground := Ground.data }, { on := 10, ground := Ground.chain }, { on := 10, ground := Ground.guard }], guard := some (10, true) }) rfl (fun K hK => ?_) AllReadyH.nil
                go_simp
                go_at_call 12
                refine (O1.out _ (WW.out.trans (hz8.mono WW.out.size))).mono ?_
                rintro e wc12 ⟨yc12, rfl, rc12, bc12⟩
                have hz12 : Below wr.heap.size wr wc12 := hz8.trans (bc12.mono hz8.size)
                have kc12 := Reads.of_own (enc := cF) (fun _ => rfl) rc12
                obtain ⟨Ac12, ec12, rfl⟩ := own_form rc12
                dsimp only
                go_wp2_with fail
                refine hK.out _ _ (CC.out _ hz12) (fun hHeldc12 => ?_)
                clear hK K hHeldc8
                try simp only [Act.put, List.setIfInBounds_toArray, List.set_cons_zero, List.set_cons_succ]
                refine wpAnyH_ready (rs := [14]) (by kernel_rfl) (by simp) ?_
                refine AllReadyH.cons (o := { dst := some 88, op := Op.call { callee := Callee.value (Operand.func 12), args := #[Operand.tmp 87], argTypes := #[23] }, type := 34, pos := "more.go:20", after := #[{ on := 13, ground := Ground.data }, { on := 12, ground := Ground.chain }, { on := 10, ground := Ground.guard }], guard := some (10, true) }) rfl (fun K hK => ?_) AllReadyH.nil
                go_simp
                go_at_call 12
                refine (O3.out _ (WW.out.trans (hz12.mono WW.out.size))).mono ?_
                rintro e wc14 ⟨yc14, rfl, rc14, bc14⟩
                have hz14 : Below wr.heap.size wr wc14 := hz12.trans (bc14.mono hz12.size)
                have kc14 := Reads.of_own (enc := cF) (fun _ => rfl) rc14
                obtain ⟨Ac14, ec14, rfl⟩ := own_form rc14
                have kc12n := kc12.below bc14
                clear kc12
                have kc12 := kc12n
                clear kc12n
                dsimp only
                go_wp2_with fail
                refine hK.out _ _ (CC.out _ hz14) (fun hHeldc14 => ?_)
                clear hK K hHeldc12
                try simp only [Act.put, List.setIfInBounds_toArray, List.set_cons_zero, List.set_cons_succ]
                refine wpAnyH_ready (rs := [19]) (by kernel_rfl) (by simp) ?_
                refine AllReadyH.cons (o := { dst := some 93, op := Op.call { callee := Callee.value (Operand.func 20), args := #[Operand.tmp 86, Operand.tmp 88, Operand.tmp 92], argTypes := #[34, 34, 9] }, type := 4, pos := "more.go:20", after := #[{ on := 12, ground := Ground.data }, { on := 14, ground := Ground.data }, { on := 18, ground := Ground.data }, { on := 14, ground := Ground.chain }, { on := 10, ground := Ground.guard }], guard := some (10, true) }) rfl (fun K hK => ?_) AllReadyH.nil
                go_simp
                go_at_call 20
                refine (LK.out _ _ _ b t kc12 kc14 Nb.out Nt.out).mono ?_
                rintro e wc19 ⟨he19, bc19⟩
                rw [H2.out] at he19
                obtain rfl := he19
                have hz19 : Below wr.heap.size wr wc19 := hz14.trans (bc19.mono hz14.size)
                dsimp only
                go_wp2_with fail
                refine hK.out _ _ (CC.out _ hz19) (fun hHeldc19 => ?_)
                clear hK K hHeldc14
                try simp only [Act.put, List.setIfInBounds_toArray, List.set_cons_zero, List.set_cons_succ]
                refine wpAnyH_take (i := 20) (oi := { dst := some 94, op := Op.unOp UnOp.not 4 (Operand.tmp 93), type := 4, pos := "more.go:20", after := #[{ on := 19, ground := Ground.data }, { on := 10, ground := Ground.guard }], guard := some (10, true) }) (v := ?vc20) rfl (by kernel_rfl) (by kernel_rfl) (by kernel_rfl) (fun _ _ _ h => h) (Or.inl ⟨by rfl, ?yc20⟩) (by assumption) ?rc20
                case yc20 => (intro w' hSw; (try dsimp only at hSw); go_simp; try with_reducible rfl)
                try simp only [Act.put, List.setIfInBounds_toArray, List.set_cons_zero, List.set_cons_succ]
                refine wpAnyH_take (i := 21) (oi := { dst := some 95, op := Op.pick (Operand.tmp 84) (Operand.tmp 94) (Operand.const (Value.bool false)), type := 4, pos := "more.go:20", after := #[{ on := 10, ground := Ground.data }, { on := 20, ground := Ground.data }], guard := none }) (v := ?vc21) rfl (by kernel_rfl) (by kernel_rfl) (by kernel_rfl) (fun _ _ _ h => h) (Or.inl ⟨by rfl, ?yc21⟩) (by assumption) ?rc21
                case yc21 => (intro w' hSw; (try dsimp only at hSw); go_simp; try with_reducible rfl)
                try simp only [Act.put, List.setIfInBounds_toArray, List.set_cons_zero, List.set_cons_succ]
                refine wpAnyH_done (by kernel_rfl) ?_ _
                go_wp2
                go_ret
                exact ⟨rfl, WW.out.trans (hz19.mono WW.out.size)⟩
          · obtain rfl : k = P.length := by omega
            have HA := Lib.hid (show ∀ p ∈ P, getF b p = getF o p ∨ getF b p = getF t p from fun p hp => by
              obtain ⟨j, hj⟩ := List.getElem?_of_mem hp
              exact HI.out j p (List.getElem?_eq_some_iff.1 hj).1 hj)
            have WW := Lib.hid (E5.out.trans (HB.out.mono E5.out.size))
            have NT := Lib.hid (show ∀ p, p ∈ pathsP b o t → getF o p ≠ getF t p → getF b p ≠ getF t p → getF b p ≠ getF o p → False from fun p hp _ h2 h3 => (HA.out p (by rw [HP.out]; exact hp)).elim h3 h2)
            have MG := merge_any wr _ _ _ b o t ⟨#[120]⟩ ⟨#[121]⟩ (RW.out _ WW.out).1 (RW.out _ WW.out).2.1 (RW.out _ WW.out).2.2 Kb.out Ko.out Kt.out Sb.out So.out St.out (fun _ => none) (fun p hp e1 e2 e3 => absurd (NT.out p hp e1 e2 e3) id) (fun _ _ _ h => by cases h)
            have RM := Lib.hid fun W (x y z : Value) (hx : Reads 3 cF W x b) (hy : Reads 3 cF W y o) (hz : Reads 3 cF W z t) => refMerge_any W x y z b o t ⟨#[120]⟩ ⟨#[121]⟩ hx hy hz Kb.out Ko.out Kt.out Sb.out So.out St.out (fun _ => none) (fun p hp e1 e2 e3 => absurd (NT.out p hp e1 e2 e3) id) (fun _ _ _ h => by cases h)
            rw [← HP.out] at MG RM
            obtain ⟨E, hE⟩ : ∃ E : ByteArray → List En, E = fun p => entV p (getF b p) (getF o p) (getF t p) := ⟨_, rfl⟩
            rw [← hE] at MG RM
            rw [show mrgC (fun p => oneV none p (getF b p) (getF o p) (getF t p)) P = [] from apart_none HA.out, show mrgE (fun p => oneV none p (getF b p) (getF o p) (getF t p)) E P = [] from apart_noE E HA.out] at MG RM
            have RP := Lib.hid (show RiseP P by rw [HP.out]; exact nrm_rise _)
            have AG := Lib.hid fun (p : ByteArray) (hp : p ∈ P) => apart_get So.out St.out RP.out HA.out hp
            obtain ⟨fs, hfs⟩ : ∃ fs, fs = mrgF (fun p => oneV none p (getF b p) (getF o p) (getF t p)) P := ⟨_, rfl⟩
            rw [show mrgF (fun p => oneV none p (getF b p) (getF o p) (getF t p)) P = fs from hfs.symm] at MG RM
            have AG2 := Lib.hid (show ∀ p ∈ P, getF fs p = if getF b p = getF o p then getF t p else getF o p from fun p hp => by rw [hfs]; exact AG.out p hp)
            have FL := Lib.hid (show fs.length ≤ 192 by rw [hfs]; have := mrgF_len (fun p => oneV none p (getF b p) (getF o p) (getF t p)) P; have := PL.out; omega)
            have MG1 := Lib.hid MG
            clear MG hE hfs AG HI hk hlt k0
            go_wp2_with fail
            refine MG1.out.mono ?_
            rintro e w6 (⟨hn, vf, ve, vc, rfl, of, oe, oc, b6⟩ | ⟨i, kk, Fb, hn, rfl, hF, hFa, b6⟩)
            case inr =>
              have E6 := Lib.hid ((WW.out.trans (b6.mono WW.out.size)).alloc (Nat.le_trans WW.out.size b6.size) (.cells #[.slice none 0 0, .slice none 0 0, .slice none 0 0] 29))
              have HN := Lib.hid hn
              clear hn hF hFa b6 MG1 PC AG2
              go_wp2_with fail
              generalize w6.alloc (.cells #[.slice none 0 0, .slice none 0 0, .slice none 0 0] 29) = w7 at *
              refine (O1.out _ E6.out).mono ?_
              rintro e u5 ⟨y5, rfl, r5, c5⟩
              have E7 := Lib.hid (E6.out.trans (c5.mono E6.out.size))
              have Q5 := Lib.hid (Reads.of_own (enc := cF) (fun _ => rfl) r5)
              obtain ⟨A5, d5, rfl⟩ := own_form r5
              clear r5 c5 E6
              go_wp2_with fail
              refine (O2.out _ E7.out).mono ?_
              rintro e u6 ⟨y6, rfl, r6, c6⟩
              have E8 := Lib.hid (E7.out.trans (c6.mono E7.out.size))
              have Q5b := Lib.hid (Q5.out.below c6)
              have Q6 := Lib.hid (Reads.of_own (enc := cF) (fun _ => rfl) r6)
              obtain ⟨A6, d6, rfl⟩ := own_form r6
              clear r6 c6 E7 Q5
              go_wp2_with fail
              refine (O3.out _ E8.out).mono ?_
              rintro e u7 ⟨y7, rfl, r7, c7⟩
              have E9 := Lib.hid (E8.out.trans (c7.mono E8.out.size))
              have RM2 := Lib.hid (RM.out u7 _ _ _ (Q5b.out.below c7) (Q6.out.below c7) (Reads.of_own (enc := cF) (fun _ => rfl) r7))
              obtain ⟨A7, d7, rfl⟩ := own_form r7
              clear r7 c7 E8 Q5b Q6
              go_wp2_with fail
              refine RM2.out.mono ?_
              rintro e u8 (⟨hn, _⟩ | ⟨i2, k2, g, hn, rfl, _, _, c8⟩)
              · rw [HN.out] at hn
                cases hn
              · have HK := Lib.hid (way_err hn)
                have EA := Lib.hid (E9.out.trans (c8.mono E9.out.size))
                have EB := Lib.hid ((EA.out.alloc EA.out.size (.cells #[.slice none 0 0, .slice none 0 0, .slice none 0 0] 37)).alloc (by have := EA.out.size; simp; omega) (.cells #[.slice (some ⟨g, 0, none⟩) 1 1, .int .i64 k2] 40))
                clear c8 hn RM2 E9
                rcases HK.out with h | h
                · subst h
                  go_wp2
                  go_ret
                  exact ⟨rfl, EB.out⟩
                · subst h
                  go_wp2
                  go_ret
                  exact ⟨rfl, EB.out⟩
            case inl =>
              obtain ⟨Af, cf, rfl⟩ := own_form of
              obtain ⟨Ae, ce, rfl⟩ := own_form oe
              obtain ⟨Ac, cc, rfl⟩ := own_form oc
              have R7 := Lib.hid ((Reads.of_own (enc := cF) (fun _ => rfl) of).alloc (.cells #[.slice Af fs.length cf, .slice Ae 0 ce, .slice Ac 0 cc] 29))
              have X7 := Lib.hid (Blk.new w6 29 #[.slice Af fs.length cf, .slice Ae 0 ce, .slice Ac 0 cc])
              have B7 := Lib.hid (b6.alloc b6.size (.cells #[.slice Af fs.length cf, .slice Ae 0 ce, .slice Ac 0 cc] 29))
              have E7 := Lib.hid (WW.out.trans (B7.out.mono WW.out.size))
              have PC7 := Lib.hid fun (i : Nat) (p : ByteArray) (hi : P[i]? = some p) => (show ∃ g, AP = some ⟨g, 0, none⟩ ∧ ∀ W, Below u4.heap.size u4 W → W.cell? ⟨g, i, none⟩ = some (.string p) from PC.out i p hi)
              have U4 := Lib.hid (HB.out.trans (B7.out.mono HB.out.size))
              clear of oe oc b6 hn MG1 PC RM
              go_wp2_with fail
              obtain ⟨g7, hg7⟩ : ∃ g, g = w6.heap.size := ⟨_, rfl⟩
              rw [← hg7] at X7 ⊢
              clear hg7
              generalize hW7 : w6.alloc (.cells #[.slice Af fs.length cf, .slice Ae 0 ce, .slice Ac 0 cc] 29) = w7 at *
              clear hW7 HB WW
              have LO := Lib.hid fun W (hW : Below w7.heap.size w7 W) => lawOf_any W _ fs (R7.out.below hW) (by have := FL.out; omega)
              have X8 := Lib.hid fun W (hW : Below w7.heap.size w7 W) => (X7.out.below hW X7.out.lt)
              unfold OwnTo at LO
              go_loopw [13, 14] (fun s13 _ wr => ∃ k : Nat, k ≤ P.length ∧ s13 = .int .i64 k ∧ Hid (Below w7.heap.size w7 wr)) (fun s13 _ _ => P.length - (intOf s13).toNat)
              case atStart => exact ⟨0, Nat.zero_le _, rfl, Lib.hid (Below.refl _ _)⟩
              case round =>
                obtain ⟨k, hk, rfl, HB⟩ := hrel
                have k0 : (0 : Int) ≤ (k : Int) := Int.natCast_nonneg _
                by_cases hlt : k < P.length
                · obtain ⟨p, hp⟩ : ∃ p, P[k]? = some p := ⟨_, List.getElem?_eq_getElem hlt⟩
                  obtain ⟨gP, rfl, hc⟩ := PC7.out k p hp
                  have WW := Lib.hid (E7.out.trans (HB.out.mono E7.out.size))
                  have hk1 : (k : Int) < (P.length : Int) := by omega
                  have LK := Lib.hid fun W (u v : Value) (l m : List Fl) (h1 : Reads 3 cF W u l) (h2 : Reads 3 cF W v m) (n1 : l.length ≤ 100000) (n2 : m.length ≤ 100000) => like_any W u v l m p h1 h2 n1 n2
                  unfold FlagTo at LK
                  have HLT := Lib.hid hlt
                  have HG := Lib.hid (AG2.out p (List.mem_of_getElem? hp))
                  have HC := Lib.hid fun W (hW : Below w7.heap.size w7 W) => hc W (U4.out.trans (hW.mono U4.out.size))
                  have Nfs := Lib.hid (show fs.length ≤ 100000 by have := FL.out; omega)
                  clear hp hc hlt hk
                  go_wp2_with fail
                  refine (O3.out _ WW.out).mono ?_
                  rintro e w9 ⟨y9, rfl, r9, c9⟩
                  have HB9 := Lib.hid (HB.out.trans (c9.mono HB.out.size))
                  have Q9 := Lib.hid (Reads.of_own (enc := cF) (fun _ => rfl) r9)
                  obtain ⟨A9, d9, rfl⟩ := own_form r9
                  have WW9 := Lib.hid (WW.out.trans (c9.mono WW.out.size))
                  clear r9 c9 HB WW
                  by_cases h1 : getF b p = getF o p
                  · have H1 := Lib.hid (decide_eq_true h1)
                    have H3 := Lib.hid (show decide (getF fs p = getF t p) = true by rw [HG.out, if_pos h1]; exact decide_eq_true rfl)
                    clear h1 HG
                    go_upto_region 19 with fail
                    have CC := Lib.hid fun W (hW : Below w9.heap.size w9 W) => HC.out W (HB9.out.trans (hW.mono HB9.out.size))
                    have WW := WW9
                    obtain ⟨wr2, hwr2⟩ : ∃ W, W = w9 := ⟨_, rfl⟩
                    subst hwr2
                    have hz0 : Below wr2.heap.size wr2 wr2.drew := (Below.refl _ _).drew
                    refine wp_region_held_drew (S := fun w' => w'.cell? ⟨gP, k, none⟩ = some (.string p)) (by kernel_rfl) (CC.out _ hz0) (fun hHeld => ?_)
                    refine wpAnyH_take (i := 0) (oi := { dst := some 126, op := Op.move (Operand.tmp 0), type := 23, pos := "more.go:31", after := #[], guard := none }) (v := ?vd0) rfl (by kernel_rfl) (by kernel_rfl) (by kernel_rfl) (fun _ _ _ h => h) (Or.inl ⟨by rfl, ?yd0⟩) (by assumption) ?rd0
                    case yd0 => (intro w' hSw; (try dsimp only at hSw); go_simp; try with_reducible rfl)
                    try simp only [Act.put, List.setIfInBounds_toArray, List.set_cons_zero, List.set_cons_succ]
                    refine wpAnyH_take (i := 2) (oi := { dst := some 128, op := Op.move (Operand.tmp 1), type := 23, pos := "more.go:31", after := #[], guard := none }) (v := ?vd2) rfl (by kernel_rfl) (by kernel_rfl) (by kernel_rfl) (fun _ _ _ h => h) (Or.inl ⟨by rfl, ?yd2⟩) (by assumption) ?rd2
                    case yd2 => (intro w' hSw; (try dsimp only at hSw); go_simp; try with_reducible rfl)
                    try simp only [Act.put, List.setIfInBounds_toArray, List.set_cons_zero, List.set_cons_succ]
                    refine wpAnyH_take (i := 4) (oi := { dst := some 130, op := Op.move (Operand.tmp 7), type := 27, pos := "more.go:31", after := #[], guard := none }) (v := ?vd4) rfl (by kernel_rfl) (by kernel_rfl) (by kernel_rfl) (fun _ _ _ h => h) (Or.inl ⟨by rfl, ?yd4⟩) (by assumption) ?rd4
                    case yd4 => (intro w' hSw; (try dsimp only at hSw); go_simp; try with_reducible rfl)
                    try simp only [Act.put, List.setIfInBounds_toArray, List.set_cons_zero, List.set_cons_succ]
                    refine wpAnyH_take (i := 5) (oi := { dst := some 131, op := Op.move (Operand.tmp 13), type := 3, pos := "more.go:31", after := #[], guard := none }) (v := ?vd5) rfl (by kernel_rfl) (by kernel_rfl) (by kernel_rfl) (fun _ _ _ h => h) (Or.inl ⟨by rfl, ?yd5⟩) (by assumption) ?rd5
                    case yd5 => (intro w' hSw; (try dsimp only at hSw); go_simp; try with_reducible rfl)
                    try simp only [Act.put, List.setIfInBounds_toArray, List.set_cons_zero, List.set_cons_succ]
                    refine wpAnyH_take (i := 6) (oi := { dst := some 132, op := Op.indexAddr 27 (Operand.tmp 130) (Operand.tmp 131), type := 0, pos := "more.go:31", after := #[{ on := 4, ground := Ground.data }, { on := 5, ground := Ground.data }], guard := none }) (v := ?vd6) rfl (by kernel_rfl) (by kernel_rfl) (by kernel_rfl) (fun _ _ _ h => h) (Or.inl ⟨by rfl, ?yd6⟩) (by assumption) ?rd6
                    case yd6 => (intro w' hSw; (try dsimp only at hSw); go_simp; try with_reducible rfl)
                    try simp only [Act.put, List.setIfInBounds_toArray, List.set_cons_zero, List.set_cons_succ]
                    refine wpAnyH_take (i := 7) (oi := { dst := some 133, op := Op.load 9 (Operand.tmp 132), type := 9, pos := "more.go:31", after := #[{ on := 6, ground := Ground.data }], guard := none }) (v := ?vd7) rfl (by kernel_rfl) (by kernel_rfl) (by kernel_rfl) (fun _ _ _ h => h) (Or.inl ⟨by rfl, ?yd7⟩) (by assumption) ?rd7
                    case yd7 => (intro w' hSw; (try dsimp only at hSw); go_simp; try with_reducible rfl)
                    try simp only [Act.put, List.setIfInBounds_toArray, List.set_cons_zero, List.set_cons_succ]
                    refine wpAnyH_ready (rs := [1]) (by kernel_rfl) (by simp) ?_
                    refine AllReadyH.cons (o := { dst := some 127, op := Op.call { callee := Callee.value (Operand.func 12), args := #[Operand.tmp 126], argTypes := #[23] }, type := 34, pos := "more.go:31", after := #[{ on := 0, ground := Ground.data }], guard := none }) rfl (fun K hK => ?_) AllReadyH.nil
                    go_simp
                    go_at_call 12
                    refine (O1.out _ (WW.out.trans (hz0.mono WW.out.size))).mono ?_
                    rintro e wd1 ⟨yd1, rfl, rd1, bd1⟩
                    have hz1 : Below wr2.heap.size wr2 wd1 := hz0.trans (bd1.mono hz0.size)
                    have kd1 := Reads.of_own (enc := cF) (fun _ => rfl) rd1
                    obtain ⟨Ad1, ed1, rfl⟩ := own_form rd1
                    dsimp only
                    go_wp2_with fail
                    refine hK.out _ _ (CC.out _ hz1) (fun hHeldd1 => ?_)
                    clear hK K hHeld
                    try simp only [Act.put, List.setIfInBounds_toArray, List.set_cons_zero, List.set_cons_succ]
                    refine wpAnyH_ready (rs := [3]) (by kernel_rfl) (by simp) ?_
                    refine AllReadyH.cons (o := { dst := some 129, op := Op.call { callee := Callee.value (Operand.func 12), args := #[Operand.tmp 128], argTypes := #[23] }, type := 34, pos := "more.go:31", after := #[{ on := 2, ground := Ground.data }, { on := 1, ground := Ground.chain }], guard := none }) rfl (fun K hK => ?_) AllReadyH.nil
                    go_simp
                    go_at_call 12
                    refine (O2.out _ (WW.out.trans (hz1.mono WW.out.size))).mono ?_
                    rintro e wd3 ⟨yd3, rfl, rd3, bd3⟩
                    have hz3 : Below wr2.heap.size wr2 wd3 := hz1.trans (bd3.mono hz1.size)
                    have kd3 := Reads.of_own (enc := cF) (fun _ => rfl) rd3
                    obtain ⟨Ad3, ed3, rfl⟩ := own_form rd3
                    have kd1n := kd1.below bd3
                    clear kd1
                    have kd1 := kd1n
                    clear kd1n
                    dsimp only
                    go_wp2_with fail
                    refine hK.out _ _ (CC.out _ hz3) (fun hHeldd3 => ?_)
                    clear hK K hHeldd1
                    try simp only [Act.put, List.setIfInBounds_toArray, List.set_cons_zero, List.set_cons_succ]
                    refine wpAnyH_ready (rs := [8]) (by kernel_rfl) (by simp) ?_
                    refine AllReadyH.cons (o := { dst := some 134, op := Op.call { callee := Callee.value (Operand.func 20), args := #[Operand.tmp 127, Operand.tmp 129, Operand.tmp 133], argTypes := #[34, 34, 9] }, type := 4, pos := "more.go:31", after := #[{ on := 1, ground := Ground.data }, { on := 3, ground := Ground.data }, { on := 7, ground := Ground.data }, { on := 3, ground := Ground.chain }], guard := none }) rfl (fun K hK => ?_) AllReadyH.nil
                    go_simp
                    go_at_call 20
                    refine (LK.out _ _ _ b o kd1 kd3 Nb.out No.out).mono ?_
                    rintro e wd8 ⟨he8, bd8⟩
                    rw [H1.out] at he8
                    obtain rfl := he8
                    have hz8 : Below wr2.heap.size wr2 wd8 := hz3.trans (bd8.mono hz3.size)
                    dsimp only
                    go_wp2_with fail
                    refine hK.out _ _ (CC.out _ hz8) (fun hHeldd8 => ?_)
                    clear hK K hHeldd3
                    try simp only [Act.put, List.setIfInBounds_toArray, List.set_cons_zero, List.set_cons_succ]
                    refine wpAnyH_take (i := 9) (oi := { dst := some 135, op := Op.unOp UnOp.not 4 (Operand.tmp 134), type := 4, pos := "more.go:31", after := #[{ on := 8, ground := Ground.data }], guard := none }) (v := ?vd9) rfl (by kernel_rfl) (by kernel_rfl) (by kernel_rfl) (fun _ _ _ h => h) (Or.inl ⟨by rfl, ?yd9⟩) (by assumption) ?rd9
                    case yd9 => (intro w' hSw; (try dsimp only at hSw); go_simp; try with_reducible rfl)
                    try simp only [Act.put, List.setIfInBounds_toArray, List.set_cons_zero, List.set_cons_succ]
                    refine wpAnyH_done (by kernel_rfl) ?_ _
                    have HB := Lib.hid (HB9.out.trans (hz8.mono HB9.out.size))
                    have QW := Lib.hid (Q9.out.below hz8)
                    have WV := Lib.hid (WW.out.trans (hz8.mono WW.out.size))
                    clear CC WW hz0 hz1 hz3 hz8 HB9 Q9 WW9
                    go_upto_region 21 with fail
                    have XX := Lib.hid fun W (hW : Below wd8.heap.size wd8 W) => (X8.out W (HB.out.trans (hW.mono HB.out.size))).cell 0
                    have CC := Lib.hid fun W (hW : Below wd8.heap.size wd8 W) => HC.out W (HB.out.trans (hW.mono HB.out.size))
                    have hz0 : Below wd8.heap.size wd8 wd8.drew := (Below.refl _ _).drew
                    refine wp_region_held_drew (S := fun w' => w'.cell? ⟨g7, 0, none⟩ = some (.slice Af fs.length cf) ∧ w'.cell? ⟨gP, k, none⟩ = some (.string p)) (by kernel_rfl) (⟨XX.out _ hz0, CC.out _ hz0⟩) (fun hHeld => ?_)
                    refine wpAnyH_take (i := 0) (oi := { dst := some 138, op := Op.fieldAddr 29 (Operand.tmp 9) 0, type := 0, pos := "more.go:34", after := #[], guard := none }) (v := ?vf0) rfl (by kernel_rfl) (by kernel_rfl) (by kernel_rfl) (fun _ _ _ h => h) (Or.inl ⟨by rfl, ?yf0⟩) (by assumption) ?rf0
                    case yf0 => (intro w' hSw; (try dsimp only at hSw); go_simp; try with_reducible rfl)
                    try simp only [Act.put, List.setIfInBounds_toArray, List.set_cons_zero, List.set_cons_succ]
                    refine wpAnyH_take (i := 1) (oi := { dst := some 139, op := Op.load 23 (Operand.tmp 138), type := 23, pos := "more.go:34", after := #[{ on := 0, ground := Ground.data }], guard := none }) (v := ?vf1) rfl (by kernel_rfl) (by kernel_rfl) (by kernel_rfl) (fun _ _ _ h => h) (Or.inl ⟨by rfl, ?yf1⟩) (by assumption) ?rf1
                    case yf1 => (intro w' hSw; (try dsimp only at hSw); go_simp; try with_reducible rfl)
                    try simp only [Act.put, List.setIfInBounds_toArray, List.set_cons_zero, List.set_cons_succ]
                    refine wpAnyH_take (i := 3) (oi := { dst := some 141, op := Op.move (Operand.tmp 14), type := 34, pos := "more.go:34", after := #[], guard := none }) (v := ?vf3) rfl (by kernel_rfl) (by kernel_rfl) (by kernel_rfl) (fun _ _ _ h => h) (Or.inl ⟨by rfl, ?yf3⟩) (by assumption) ?rf3
                    case yf3 => (intro w' hSw; (try dsimp only at hSw); go_simp; try with_reducible rfl)
                    try simp only [Act.put, List.setIfInBounds_toArray, List.set_cons_zero, List.set_cons_succ]
                    refine wpAnyH_take (i := 4) (oi := { dst := some 142, op := Op.move (Operand.tmp 7), type := 27, pos := "more.go:34", after := #[], guard := none }) (v := ?vf4) rfl (by kernel_rfl) (by kernel_rfl) (by kernel_rfl) (fun _ _ _ h => h) (Or.inl ⟨by rfl, ?yf4⟩) (by assumption) ?rf4
                    case yf4 => (intro w' hSw; (try dsimp only at hSw); go_simp; try with_reducible rfl)
                    try simp only [Act.put, List.setIfInBounds_toArray, List.set_cons_zero, List.set_cons_succ]
                    refine wpAnyH_take (i := 5) (oi := { dst := some 143, op := Op.move (Operand.tmp 13), type := 3, pos := "more.go:34", after := #[], guard := none }) (v := ?vf5) rfl (by kernel_rfl) (by kernel_rfl) (by kernel_rfl) (fun _ _ _ h => h) (Or.inl ⟨by rfl, ?yf5⟩) (by assumption) ?rf5
                    case yf5 => (intro w' hSw; (try dsimp only at hSw); go_simp; try with_reducible rfl)
                    try simp only [Act.put, List.setIfInBounds_toArray, List.set_cons_zero, List.set_cons_succ]
                    refine wpAnyH_take (i := 6) (oi := { dst := some 144, op := Op.indexAddr 27 (Operand.tmp 142) (Operand.tmp 143), type := 0, pos := "more.go:34", after := #[{ on := 4, ground := Ground.data }, { on := 5, ground := Ground.data }], guard := none }) (v := ?vf6) rfl (by kernel_rfl) (by kernel_rfl) (by kernel_rfl) (fun _ _ _ h => h) (Or.inl ⟨by rfl, ?yf6⟩) (by assumption) ?rf6
                    case yf6 => (intro w' hSw; (try dsimp only at hSw); go_simp; try with_reducible rfl)
                    try simp only [Act.put, List.setIfInBounds_toArray, List.set_cons_zero, List.set_cons_succ]
                    refine wpAnyH_take (i := 7) (oi := { dst := some 145, op := Op.load 9 (Operand.tmp 144), type := 9, pos := "more.go:34", after := #[{ on := 6, ground := Ground.data }], guard := none }) (v := ?vf7) rfl (by kernel_rfl) (by kernel_rfl) (by kernel_rfl) (fun _ _ _ h => h) (Or.inl ⟨by rfl, ?yf7⟩) (by assumption) ?rf7
                    case yf7 => (intro w' hSw; (try dsimp only at hSw); go_simp; try with_reducible rfl)
                    try simp only [Act.put, List.setIfInBounds_toArray, List.set_cons_zero, List.set_cons_succ]
                    refine wpAnyH_ready (rs := [2]) (by kernel_rfl) (by simp) ?_
                    refine AllReadyH.cons (o := { dst := some 140, op := Op.call { callee := Callee.value (Operand.func 12), args := #[Operand.tmp 139], argTypes := #[23] }, type := 34, pos := "more.go:34", after := #[{ on := 1, ground := Ground.data }], guard := none }) rfl (fun K hK => ?_) AllReadyH.nil
                    go_simp
                    go_at_call 12
                    refine (LO.out _ (HB.out.trans (hz0.mono HB.out.size))).mono ?_
                    rintro e wf2 ⟨yf2, rfl, rf2, bf2⟩
                    have hz2 : Below wd8.heap.size wd8 wf2 := hz0.trans (bf2.mono hz0.size)
                    have kf2 := Reads.of_own (enc := cF) (fun _ => rfl) rf2
                    obtain ⟨Af2, ef2, rfl⟩ := own_form rf2
                    dsimp only
                    go_wp2_with fail
                    refine hK.out _ _ (⟨XX.out _ hz2, CC.out _ hz2⟩) (fun hHeldf2 => ?_)
                    clear hK K hHeld
                    try simp only [Act.put, List.setIfInBounds_toArray, List.set_cons_zero, List.set_cons_succ]
                    refine wpAnyH_ready (rs := [8]) (by kernel_rfl) (by simp) ?_
                    refine AllReadyH.cons (o := { dst := some 146, op := Op.call { callee := Callee.value (Operand.func 20), args := #[Operand.tmp 140, Operand.tmp 141, Operand.tmp 145], argTypes := #[34, 34, 9] }, type := 4, pos := "more.go:34", after := #[{ on := 2, ground := Ground.data }, { on := 3, ground := Ground.data }, { on := 7, ground := Ground.data }, { on := 2, ground := Ground.chain }], guard := none }) rfl (fun K hK => ?_) AllReadyH.nil
                    go_simp
                    go_at_call 20
                    refine (LK.out _ _ _ fs t kf2 (QW.out.below hz2) Nfs.out Nt.out).mono ?_
                    rintro e wf8 ⟨he8, bf8⟩
                    rw [H3.out] at he8
                    obtain rfl := he8
                    have hz8 : Below wd8.heap.size wd8 wf8 := hz2.trans (bf8.mono hz2.size)
                    dsimp only
                    go_wp2_with fail
                    refine hK.out _ _ (⟨XX.out _ hz8, CC.out _ hz8⟩) (fun hHeldf8 => ?_)
                    clear hK K hHeldf2
                    try simp only [Act.put, List.setIfInBounds_toArray, List.set_cons_zero, List.set_cons_succ]
                    refine wpAnyH_take (i := 9) (oi := { dst := some 147, op := Op.unOp UnOp.not 4 (Operand.tmp 146), type := 4, pos := "more.go:34", after := #[{ on := 8, ground := Ground.data }], guard := none }) (v := ?vf9) rfl (by kernel_rfl) (by kernel_rfl) (by kernel_rfl) (fun _ _ _ h => h) (Or.inl ⟨by rfl, ?yf9⟩) (by assumption) ?rf9
                    case yf9 => (intro w' hSw; (try dsimp only at hSw); go_simp; try with_reducible rfl)
                    try simp only [Act.put, List.setIfInBounds_toArray, List.set_cons_zero, List.set_cons_succ]
                    refine wpAnyH_done (by kernel_rfl) ?_ _
                    go_wp2_with fail
                    go_roundw
                    case rel => exact ⟨k + 1, by have := HLT.out; omega, by go_num, Lib.hid (HB.out.trans (hz8.mono HB.out.size))⟩
                    case measure => have := HLT.out; simp [intOf]; omega
                  · have H1 := Lib.hid (decide_eq_false h1)
                    have H3 := Lib.hid (show decide (getF fs p = getF o p) = true by rw [HG.out, if_neg h1]; exact decide_eq_true rfl)
                    clear h1 HG
                    go_upto_region 19 with fail
                    have CC := Lib.hid fun W (hW : Below w9.heap.size w9 W) => HC.out W (HB9.out.trans (hW.mono HB9.out.size))
                    have WW := WW9
                    obtain ⟨wr2, hwr2⟩ : ∃ W, W = w9 := ⟨_, rfl⟩
                    subst hwr2
                    have hz0 : Below wr2.heap.size wr2 wr2.drew := (Below.refl _ _).drew
                    refine wp_region_held_drew (S := fun w' => w'.cell? ⟨gP, k, none⟩ = some (.string p)) (by kernel_rfl) (CC.out _ hz0) (fun hHeld => ?_)
                    refine wpAnyH_take (i := 0) (oi := { dst := some 126, op := Op.move (Operand.tmp 0), type := 23, pos := "more.go:31", after := #[], guard := none }) (v := ?ve0) rfl (by kernel_rfl) (by kernel_rfl) (by kernel_rfl) (fun _ _ _ h => h) (Or.inl ⟨by rfl, ?ye0⟩) (by assumption) ?re0
                    case ye0 => (intro w' hSw; (try dsimp only at hSw); go_simp; try with_reducible rfl)
                    try simp only [Act.put, List.setIfInBounds_toArray, List.set_cons_zero, List.set_cons_succ]
                    refine wpAnyH_take (i := 2) (oi := { dst := some 128, op := Op.move (Operand.tmp 1), type := 23, pos := "more.go:31", after := #[], guard := none }) (v := ?ve2) rfl (by kernel_rfl) (by kernel_rfl) (by kernel_rfl) (fun _ _ _ h => h) (Or.inl ⟨by rfl, ?ye2⟩) (by assumption) ?re2
                    case ye2 => (intro w' hSw; (try dsimp only at hSw); go_simp; try with_reducible rfl)
                    try simp only [Act.put, List.setIfInBounds_toArray, List.set_cons_zero, List.set_cons_succ]
                    refine wpAnyH_take (i := 4) (oi := { dst := some 130, op := Op.move (Operand.tmp 7), type := 27, pos := "more.go:31", after := #[], guard := none }) (v := ?ve4) rfl (by kernel_rfl) (by kernel_rfl) (by kernel_rfl) (fun _ _ _ h => h) (Or.inl ⟨by rfl, ?ye4⟩) (by assumption) ?re4
                    case ye4 => (intro w' hSw; (try dsimp only at hSw); go_simp; try with_reducible rfl)
                    try simp only [Act.put, List.setIfInBounds_toArray, List.set_cons_zero, List.set_cons_succ]
                    refine wpAnyH_take (i := 5) (oi := { dst := some 131, op := Op.move (Operand.tmp 13), type := 3, pos := "more.go:31", after := #[], guard := none }) (v := ?ve5) rfl (by kernel_rfl) (by kernel_rfl) (by kernel_rfl) (fun _ _ _ h => h) (Or.inl ⟨by rfl, ?ye5⟩) (by assumption) ?re5
                    case ye5 => (intro w' hSw; (try dsimp only at hSw); go_simp; try with_reducible rfl)
                    try simp only [Act.put, List.setIfInBounds_toArray, List.set_cons_zero, List.set_cons_succ]
                    refine wpAnyH_take (i := 6) (oi := { dst := some 132, op := Op.indexAddr 27 (Operand.tmp 130) (Operand.tmp 131), type := 0, pos := "more.go:31", after := #[{ on := 4, ground := Ground.data }, { on := 5, ground := Ground.data }], guard := none }) (v := ?ve6) rfl (by kernel_rfl) (by kernel_rfl) (by kernel_rfl) (fun _ _ _ h => h) (Or.inl ⟨by rfl, ?ye6⟩) (by assumption) ?re6
                    case ye6 => (intro w' hSw; (try dsimp only at hSw); go_simp; try with_reducible rfl)
                    try simp only [Act.put, List.setIfInBounds_toArray, List.set_cons_zero, List.set_cons_succ]
                    refine wpAnyH_take (i := 7) (oi := { dst := some 133, op := Op.load 9 (Operand.tmp 132), type := 9, pos := "more.go:31", after := #[{ on := 6, ground := Ground.data }], guard := none }) (v := ?ve7) rfl (by kernel_rfl) (by kernel_rfl) (by kernel_rfl) (fun _ _ _ h => h) (Or.inl ⟨by rfl, ?ye7⟩) (by assumption) ?re7
                    case ye7 => (intro w' hSw; (try dsimp only at hSw); go_simp; try with_reducible rfl)
                    try simp only [Act.put, List.setIfInBounds_toArray, List.set_cons_zero, List.set_cons_succ]
                    refine wpAnyH_ready (rs := [1]) (by kernel_rfl) (by simp) ?_
                    refine AllReadyH.cons (o := { dst := some 127, op := Op.call { callee := Callee.value (Operand.func 12), args := #[Operand.tmp 126], argTypes := #[23] }, type := 34, pos := "more.go:31", after := #[{ on := 0, ground := Ground.data }], guard := none }) rfl (fun K hK => ?_) AllReadyH.nil
                    go_simp
                    go_at_call 12
                    refine (O1.out _ (WW.out.trans (hz0.mono WW.out.size))).mono ?_
                    rintro e we1 ⟨ye1, rfl, re1, be1⟩
                    have hz1 : Below wr2.heap.size wr2 we1 := hz0.trans (be1.mono hz0.size)
                    have ke1 := Reads.of_own (enc := cF) (fun _ => rfl) re1
                    obtain ⟨Ae1, ee1, rfl⟩ := own_form re1
                    dsimp only
                    go_wp2_with fail
                    refine hK.out _ _ (CC.out _ hz1) (fun hHelde1 => ?_)
                    clear hK K hHeld
                    try simp only [Act.put, List.setIfInBounds_toArray, List.set_cons_zero, List.set_cons_succ]
                    refine wpAnyH_ready (rs := [3]) (by kernel_rfl) (by simp) ?_
                    refine AllReadyH.cons (o := { dst := some 129, op := Op.call { callee := Callee.value (Operand.func 12), args := #[Operand.tmp 128], argTypes := #[23] }, type := 34, pos := "more.go:31", after := #[{ on := 2, ground := Ground.data }, { on := 1, ground := Ground.chain }], guard := none }) rfl (fun K hK => ?_) AllReadyH.nil
                    go_simp
                    go_at_call 12
                    refine (O2.out _ (WW.out.trans (hz1.mono WW.out.size))).mono ?_
                    rintro e we3 ⟨ye3, rfl, re3, be3⟩
                    have hz3 : Below wr2.heap.size wr2 we3 := hz1.trans (be3.mono hz1.size)
                    have ke3 := Reads.of_own (enc := cF) (fun _ => rfl) re3
                    obtain ⟨Ae3, ee3, rfl⟩ := own_form re3
                    have ke1n := ke1.below be3
                    clear ke1
                    have ke1 := ke1n
                    clear ke1n
                    dsimp only
                    go_wp2_with fail
                    refine hK.out _ _ (CC.out _ hz3) (fun hHelde3 => ?_)
                    clear hK K hHelde1
                    try simp only [Act.put, List.setIfInBounds_toArray, List.set_cons_zero, List.set_cons_succ]
                    refine wpAnyH_ready (rs := [8]) (by kernel_rfl) (by simp) ?_
                    refine AllReadyH.cons (o := { dst := some 134, op := Op.call { callee := Callee.value (Operand.func 20), args := #[Operand.tmp 127, Operand.tmp 129, Operand.tmp 133], argTypes := #[34, 34, 9] }, type := 4, pos := "more.go:31", after := #[{ on := 1, ground := Ground.data }, { on := 3, ground := Ground.data }, { on := 7, ground := Ground.data }, { on := 3, ground := Ground.chain }], guard := none }) rfl (fun K hK => ?_) AllReadyH.nil
                    go_simp
                    go_at_call 20
                    refine (LK.out _ _ _ b o ke1 ke3 Nb.out No.out).mono ?_
                    rintro e we8 ⟨he8, be8⟩
                    rw [H1.out] at he8
                    obtain rfl := he8
                    have hz8 : Below wr2.heap.size wr2 we8 := hz3.trans (be8.mono hz3.size)
                    dsimp only
                    go_wp2_with fail
                    refine hK.out _ _ (CC.out _ hz8) (fun hHelde8 => ?_)
                    clear hK K hHelde3
                    try simp only [Act.put, List.setIfInBounds_toArray, List.set_cons_zero, List.set_cons_succ]
                    refine wpAnyH_take (i := 9) (oi := { dst := some 135, op := Op.unOp UnOp.not 4 (Operand.tmp 134), type := 4, pos := "more.go:31", after := #[{ on := 8, ground := Ground.data }], guard := none }) (v := ?ve9) rfl (by kernel_rfl) (by kernel_rfl) (by kernel_rfl) (fun _ _ _ h => h) (Or.inl ⟨by rfl, ?ye9⟩) (by assumption) ?re9
                    case ye9 => (intro w' hSw; (try dsimp only at hSw); go_simp; try with_reducible rfl)
                    try simp only [Act.put, List.setIfInBounds_toArray, List.set_cons_zero, List.set_cons_succ]
                    refine wpAnyH_done (by kernel_rfl) ?_ _
                    have HB8 := Lib.hid (HB9.out.trans (hz8.mono HB9.out.size))
                    have WV := Lib.hid (WW.out.trans (hz8.mono WW.out.size))
                    clear CC WW hz0 hz1 hz3 hz8 HB9 Q9 WW9
                    go_wp2_with fail
                    refine (O2.out _ WV.out).mono ?_
                    rintro e wd9 ⟨yb, rfl, rb, cb⟩
                    have HB := Lib.hid (HB8.out.trans (cb.mono HB8.out.size))
                    have QW := Lib.hid (Reads.of_own (enc := cF) (fun _ => rfl) rb)
                    obtain ⟨Ab2, db2, rfl⟩ := own_form rb
                    clear rb cb HB8
                    go_upto_region 21 with fail
                    have XX := Lib.hid fun W (hW : Below wd9.heap.size wd9 W) => (X8.out W (HB.out.trans (hW.mono HB.out.size))).cell 0
                    have CC := Lib.hid fun W (hW : Below wd9.heap.size wd9 W) => HC.out W (HB.out.trans (hW.mono HB.out.size))
                    have hz0 : Below wd9.heap.size wd9 wd9.drew := (Below.refl _ _).drew
                    refine wp_region_held_drew (S := fun w' => w'.cell? ⟨g7, 0, none⟩ = some (.slice Af fs.length cf) ∧ w'.cell? ⟨gP, k, none⟩ = some (.string p)) (by kernel_rfl) (⟨XX.out _ hz0, CC.out _ hz0⟩) (fun hHeld => ?_)
                    refine wpAnyH_take (i := 0) (oi := { dst := some 138, op := Op.fieldAddr 29 (Operand.tmp 9) 0, type := 0, pos := "more.go:34", after := #[], guard := none }) (v := ?vh0) rfl (by kernel_rfl) (by kernel_rfl) (by kernel_rfl) (fun _ _ _ h => h) (Or.inl ⟨by rfl, ?yh0⟩) (by assumption) ?rh0
                    case yh0 => (intro w' hSw; (try dsimp only at hSw); go_simp; try with_reducible rfl)
                    try simp only [Act.put, List.setIfInBounds_toArray, List.set_cons_zero, List.set_cons_succ]
                    refine wpAnyH_take (i := 1) (oi := { dst := some 139, op := Op.load 23 (Operand.tmp 138), type := 23, pos := "more.go:34", after := #[{ on := 0, ground := Ground.data }], guard := none }) (v := ?vh1) rfl (by kernel_rfl) (by kernel_rfl) (by kernel_rfl) (fun _ _ _ h => h) (Or.inl ⟨by rfl, ?yh1⟩) (by assumption) ?rh1
                    case yh1 => (intro w' hSw; (try dsimp only at hSw); go_simp; try with_reducible rfl)
                    try simp only [Act.put, List.setIfInBounds_toArray, List.set_cons_zero, List.set_cons_succ]
                    refine wpAnyH_take (i := 3) (oi := { dst := some 141, op := Op.move (Operand.tmp 14), type := 34, pos := "more.go:34", after := #[], guard := none }) (v := ?vh3) rfl (by kernel_rfl) (by kernel_rfl) (by kernel_rfl) (fun _ _ _ h => h) (Or.inl ⟨by rfl, ?yh3⟩) (by assumption) ?rh3
                    case yh3 => (intro w' hSw; (try dsimp only at hSw); go_simp; try with_reducible rfl)
                    try simp only [Act.put, List.setIfInBounds_toArray, List.set_cons_zero, List.set_cons_succ]
                    refine wpAnyH_take (i := 4) (oi := { dst := some 142, op := Op.move (Operand.tmp 7), type := 27, pos := "more.go:34", after := #[], guard := none }) (v := ?vh4) rfl (by kernel_rfl) (by kernel_rfl) (by kernel_rfl) (fun _ _ _ h => h) (Or.inl ⟨by rfl, ?yh4⟩) (by assumption) ?rh4
                    case yh4 => (intro w' hSw; (try dsimp only at hSw); go_simp; try with_reducible rfl)
                    try simp only [Act.put, List.setIfInBounds_toArray, List.set_cons_zero, List.set_cons_succ]
                    refine wpAnyH_take (i := 5) (oi := { dst := some 143, op := Op.move (Operand.tmp 13), type := 3, pos := "more.go:34", after := #[], guard := none }) (v := ?vh5) rfl (by kernel_rfl) (by kernel_rfl) (by kernel_rfl) (fun _ _ _ h => h) (Or.inl ⟨by rfl, ?yh5⟩) (by assumption) ?rh5
                    case yh5 => (intro w' hSw; (try dsimp only at hSw); go_simp; try with_reducible rfl)
                    try simp only [Act.put, List.setIfInBounds_toArray, List.set_cons_zero, List.set_cons_succ]
                    refine wpAnyH_take (i := 6) (oi := { dst := some 144, op := Op.indexAddr 27 (Operand.tmp 142) (Operand.tmp 143), type := 0, pos := "more.go:34", after := #[{ on := 4, ground := Ground.data }, { on := 5, ground := Ground.data }], guard := none }) (v := ?vh6) rfl (by kernel_rfl) (by kernel_rfl) (by kernel_rfl) (fun _ _ _ h => h) (Or.inl ⟨by rfl, ?yh6⟩) (by assumption) ?rh6
                    case yh6 => (intro w' hSw; (try dsimp only at hSw); go_simp; try with_reducible rfl)
                    try simp only [Act.put, List.setIfInBounds_toArray, List.set_cons_zero, List.set_cons_succ]
                    refine wpAnyH_take (i := 7) (oi := { dst := some 145, op := Op.load 9 (Operand.tmp 144), type := 9, pos := "more.go:34", after := #[{ on := 6, ground := Ground.data }], guard := none }) (v := ?vh7) rfl (by kernel_rfl) (by kernel_rfl) (by kernel_rfl) (fun _ _ _ h => h) (Or.inl ⟨by rfl, ?yh7⟩) (by assumption) ?rh7
                    case yh7 => (intro w' hSw; (try dsimp only at hSw); go_simp; try with_reducible rfl)
                    try simp only [Act.put, List.setIfInBounds_toArray, List.set_cons_zero, List.set_cons_succ]
                    refine wpAnyH_ready (rs := [2]) (by kernel_rfl) (by simp) ?_
                    refine AllReadyH.cons (o := { dst := some 140, op := Op.call { callee := Callee.value (Operand.func 12), args := #[Operand.tmp 139], argTypes := #[23] }, type := 34, pos := "more.go:34", after := #[{ on := 1, ground := Ground.data }], guard := none }) rfl (fun K hK => ?_) AllReadyH.nil
                    go_simp
                    go_at_call 12
                    refine (LO.out _ (HB.out.trans (hz0.mono HB.out.size))).mono ?_
                    rintro e wh2 ⟨yh2, rfl, rh2, bh2⟩
                    have hz2 : Below wd9.heap.size wd9 wh2 := hz0.trans (bh2.mono hz0.size)
                    have kh2 := Reads.of_own (enc := cF) (fun _ => rfl) rh2
                    obtain ⟨Ah2, eh2, rfl⟩ := own_form rh2
                    dsimp only
                    go_wp2_with fail
                    refine hK.out _ _ (⟨XX.out _ hz2, CC.out _ hz2⟩) (fun hHeldh2 => ?_)
                    clear hK K hHeld
                    try simp only [Act.put, List.setIfInBounds_toArray, List.set_cons_zero, List.set_cons_succ]
                    refine wpAnyH_ready (rs := [8]) (by kernel_rfl) (by simp) ?_
                    refine AllReadyH.cons (o := { dst := some 146, op := Op.call { callee := Callee.value (Operand.func 20), args := #[Operand.tmp 140, Operand.tmp 141, Operand.tmp 145], argTypes := #[34, 34, 9] }, type := 4, pos := "more.go:34", after := #[{ on := 2, ground := Ground.data }, { on := 3, ground := Ground.data }, { on := 7, ground := Ground.data }, { on := 2, ground := Ground.chain }], guard := none }) rfl (fun K hK => ?_) AllReadyH.nil
                    go_simp
                    go_at_call 20
                    refine (LK.out _ _ _ fs o kh2 (QW.out.below hz2) Nfs.out No.out).mono ?_
                    rintro e wh8 ⟨he8, bh8⟩
                    rw [H3.out] at he8
                    obtain rfl := he8
                    have hz8 : Below wd9.heap.size wd9 wh8 := hz2.trans (bh8.mono hz2.size)
                    dsimp only
                    go_wp2_with fail
                    refine hK.out _ _ (⟨XX.out _ hz8, CC.out _ hz8⟩) (fun hHeldh8 => ?_)
                    clear hK K hHeldh2
                    try simp only [Act.put, List.setIfInBounds_toArray, List.set_cons_zero, List.set_cons_succ]
                    refine wpAnyH_take (i := 9) (oi := { dst := some 147, op := Op.unOp UnOp.not 4 (Operand.tmp 146), type := 4, pos := "more.go:34", after := #[{ on := 8, ground := Ground.data }], guard := none }) (v := ?vh9) rfl (by kernel_rfl) (by kernel_rfl) (by kernel_rfl) (fun _ _ _ h => h) (Or.inl ⟨by rfl, ?yh9⟩) (by assumption) ?rh9
                    case yh9 => (intro w' hSw; (try dsimp only at hSw); go_simp; try with_reducible rfl)
                    try simp only [Act.put, List.setIfInBounds_toArray, List.set_cons_zero, List.set_cons_succ]
                    refine wpAnyH_done (by kernel_rfl) ?_ _
                    go_wp2_with fail
                    go_roundw
                    case rel => exact ⟨k + 1, by have := HLT.out; omega, by go_num, Lib.hid (HB.out.trans (hz8.mono HB.out.size))⟩
                    case measure => have := HLT.out; simp [intOf]; omega
                · obtain rfl : k = P.length := by omega
                  have x1 := (X8.out _ HB.out).cell 1
                  have x2 := (X8.out _ HB.out).cell 2
                  go_wp2
                  go_ret
                  exact ⟨rfl, E7.out.trans (HB.out.mono E7.out.size)⟩
end Go.Proofs.YtapcnmnnichamaaGreatDoor
