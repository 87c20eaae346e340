/-
  The contract of measure.
-/
import Derived.Test.YtdpoeagmeiedcaaDoorState
namespace Go.Proofs.YtdpoeagmeiedcaaDoor
open Go.RowKit Go.Maps Go.WideMaps

/-- The grid that measure answers: the lines' numbers, and the whole table. -/
def Measured (w : World) (xs ys : List ByteArray) (e : Ending) (w' : World) : Prop :=
  ∃ (ga gb gr R : Nat) (zs us cs : List Nat) (D : DataW Unit), e = .returned (.agg #[sl ga xs.length, sl gb ys.length, sl gr R]) ∧ R = (xs.length + 1) * (ys.length + 1) ∧ Good D ∧ Nums D xs zs ∧ Nums D ys us ∧
    w'.ownsRow (w.heap.size + 1) 3 1 (sl ga xs.length) xs.length (i64s zs) ∧ w'.ownsRow (w.heap.size + 1) 3 1 (sl gb ys.length) ys.length (i64s us) ∧
    w'.ownsRow (w.heap.size + 1) 92 1 (sl gr R) R (u16s cs) ∧ Tab xs ys 0 ys.length cs ∧ Below w.heap.size w w'

set_option maxRecDepth 100000 in
set_option maxHeartbeats 2000000 in
theorem measure_any (w : World) (v u : Value) (xs ys : List ByteArray) (h : Strs w v xs) (g : Strs w u ys) (hx : ∀ s ∈ xs, s.size ≤ maxLen) (hy : ∀ s ∈ ys, s.size ≤ maxLen) (hxl : xs.length ≤ 256) (hyl : ys.length ≤ 256) :
    Calls Tryd.prog 38 #[v, u] w (Measured w xs ys) := by
  obtain ⟨A, n, c, rfl⟩ := h.form
  obtain ⟨B, m, d, rfl⟩ := g.form
  obtain rfl := h.len.1
  obtain rfl := g.len.1
  obtain ⟨i0, hi, hz0, hz1, hz2⟩ := info_parts u16Info
  have hR : (xs.length + 1) * (ys.length + 1) ≤ 100000 := by
    have := Nat.mul_le_mul (show xs.length + 1 ≤ 257 by omega) (show ys.length + 1 ≤ 257 by omega)
    omega
  have hmk := fun W => run_make_rowN (P := Tryd.prog) 83 92 i0 (.int .u16 0) Tryd.underlying83 hi hz0 .i64 .i64 ((xs.length + 1) * (ys.length + 1)) ((xs.length + 1) * (ys.length + 1)) (Nat.le_refl _) (by rw [hz2]; omega) (by omega) W
  simp only [hz1, Nat.mul_one] at hmk
  have e1 : IntKind.i64.wrap ((xs.length : Int) + 1) = (xs.length : Int) + 1 := IntWalk.i64_in _ (by omega)
  have e2 : IntKind.i64.wrap ((ys.length : Int) + 1) = (ys.length : Int) + 1 := IntWalk.i64_in _ (by omega)
  have e3 : IntKind.i64.wrap (((xs.length : Int) + 1) * ((ys.length : Int) + 1)) = (((xs.length + 1) * (ys.length + 1) : Nat) : Int) := by
    rw [show ((xs.length : Int) + 1) * ((ys.length : Int) + 1) = (((xs.length + 1) * (ys.length + 1) : Nat) : Int) by simp]
    exact IntWalk.i64_in _ (by omega)
  have HR : Hid ((xs.length + 1) * (ys.length + 1) = (xs.length + 1) * (ys.length + 1)) := rfl
  generalize hRR : (xs.length + 1) * (ys.length + 1) = R at *
  have HRR := Lib.hid hRR
  clear hRR
  have hmap := @run_makeMap Tryd.prog
  have P0 : Pre w ((w.alloc (.cells #[nils, nils, nils] 85)).alloc (.map #[] 0)) w.heap.size (w.heap.size + 1) (.slice A xs.length c) (.slice B ys.length d) xs ys 0 (.map []) := by
    have E := ((Below.refl w.heap.size w).alloc (Nat.le_refl _) (.cells #[nils, nils, nils] 85)).alloc (by simp) (.map #[] 0)
    have hm := World.ownsMap_made (H := Unit) (w.alloc (.cells #[nils, nils, nils] 85)) Tryd.prog 9 (plainElem Tryd.prog 3)
    exact ⟨by simpa using hm, h.below E, g.below E, (Three.new w nils nils nils 85).below ((Below.refl _ _).alloc (Nat.le_refl _) _), E, Nat.le_refl _, by omega, good_empty⟩
  have HX := Lib.hid hx
  have HY := Lib.hid hy
  clear h g hx hy
  go_enter Tryd.func38, Tryd.ntmps38
  go_upto_region 2 with fail
  have hmz : (w.alloc (.cells #[nils, nils, nils] 85)).heap.size = w.heap.size + 1 := by simp
  have hW0 : w.heap.size + 1 < ((w.alloc (.cells #[nils, nils, nils] 85)).alloc (.map #[] 0)).heap.size := by simp
  generalize (w.alloc (.cells #[nils, nils, nils] 85)).alloc (.map #[] 0) = W0 at *
  obtain ⟨b4, hb4⟩ : ∃ b, b = w.heap.size := ⟨_, rfl⟩
  obtain ⟨bm, hbm⟩ : ∃ b, b = w.heap.size + 1 := ⟨_, rfl⟩
  rw [← hbm] at hW0 P0 ⊢
  rw [← hb4] at P0 ⊢
  have HB4 := Lib.hid hb4
  have HBM := Lib.hid hbm
  clear hmz hb4 hbm hmap
  go_cut [6] (fun x6 wx => Mid w b4 xs ys R x6 wx)
  case first =>
    have S0 := st_start (R := R) P0 (by unfold maxLen; omega)
    have hxn : xs.length ≤ 1000 := by omega
    have hyn : ys.length ≤ 1000 := by omega
    have h0n : 0 ≤ 1000 := by omega
    have hsn : 0 + xs.length ≤ 1000 := by omega
    clear P0
    go_region_held3 (fun _ => True) (exact True.intro) (first
      | (go_at_call 71; (first | (with_reducible refine (st_call2 S1 HY.out hyn hsn).mono ?_) | (with_reducible refine (st_call2 S1.make HY.out hyn hsn).mono ?_) | (with_reducible refine (st_call2 S1.lay HY.out hyn hsn).mono ?_) | (with_reducible refine (st_call2 S1.make.lay HY.out hyn hsn).mono ?_) | (with_reducible refine (st_call2 S1.lay.make HY.out hyn hsn).mono ?_) | (with_reducible refine (st_call2 S1.drew HY.out hyn hsn).mono ?_) | (with_reducible refine (st_call2 S1.make.drew HY.out hyn hsn).mono ?_) | (with_reducible refine (st_call2 S1.lay.drew HY.out hyn hsn).mono ?_) | (with_reducible refine (st_call2 S1.make.lay.drew HY.out hyn hsn).mono ?_) | (with_reducible refine (st_call2 S1.lay.make.drew HY.out hyn hsn).mono ?_) | (with_reducible refine (st_call2 S1.drew.drew HY.out hyn hsn).mono ?_) | (with_reducible refine (st_call2 S1.make.drew.drew HY.out hyn hsn).mono ?_) | (with_reducible refine (st_call2 S1.lay.drew.drew HY.out hyn hsn).mono ?_) | (with_reducible refine (st_call2 S1.make.lay.drew.drew HY.out hyn hsn).mono ?_) | (with_reducible refine (st_call2 S1.lay.make.drew.drew HY.out hyn hsn).mono ?_)); rintro e w2 ⟨gb, us, D2, rfl, S2⟩; try (have T2 := (S2.fG _ rfl).1; have t0 := T2.c0; have t1 := T2.c1; have t2 := T2.c2; have z0 := T2.z0; have z1 := T2.z1; have z2 := T2.z2; have tl := T2.lt; clear T2; simp [nils] at t0 t1 t2 z0 z1 z2 tl))
      | (go_at_call 71; (first | (with_reducible refine (st_call1 S0 HX.out hxn h0n).mono ?_) | (with_reducible refine (st_call1 S0.make HX.out hxn h0n).mono ?_) | (with_reducible refine (st_call1 S0.lay HX.out hxn h0n).mono ?_) | (with_reducible refine (st_call1 S0.make.lay HX.out hxn h0n).mono ?_) | (with_reducible refine (st_call1 S0.lay.make HX.out hxn h0n).mono ?_) | (with_reducible refine (st_call1 S0.drew HX.out hxn h0n).mono ?_) | (with_reducible refine (st_call1 S0.make.drew HX.out hxn h0n).mono ?_) | (with_reducible refine (st_call1 S0.lay.drew HX.out hxn h0n).mono ?_) | (with_reducible refine (st_call1 S0.make.lay.drew HX.out hxn h0n).mono ?_) | (with_reducible refine (st_call1 S0.lay.make.drew HX.out hxn h0n).mono ?_) | (with_reducible refine (st_call1 S0.drew.drew HX.out hxn h0n).mono ?_) | (with_reducible refine (st_call1 S0.make.drew.drew HX.out hxn h0n).mono ?_) | (with_reducible refine (st_call1 S0.lay.drew.drew HX.out hxn h0n).mono ?_) | (with_reducible refine (st_call1 S0.make.lay.drew.drew HX.out hxn h0n).mono ?_) | (with_reducible refine (st_call1 S0.lay.make.drew.drew HX.out hxn h0n).mono ?_)); rintro e w1 ⟨ga, zs, D1, rfl, S1⟩))
    all_goals (go_wp2_with fail; go_meet)
    all_goals clear HRR HR HX HY hmk e1 e2 e3
    all_goals (first
      | exact st_close_whole S2
      | exact st_close S2
      | exact st_close_make S2
      | exact st_close_late S2
      | simpa using st_close S2
      | simpa using st_close_whole S2.make
      | simpa using st_close_late S2)
  clear P0 hmk e1 e2 e3 HX HY
  obtain ⟨G, ga, gb, gr, zs, us, D, rfl, hG, hNa, hNb, L⟩ := hcut
  have T0 := Tab.init xs ys
  rw [HRR.out] at T0
  have HG := Lib.hid hG
  have HNa := Lib.hid hNa
  have HNb := Lib.hid hNb
  clear hG hNa hNb
  go_wp2_with fail
  go_loopw [7, 8] (fun s7 _ wr => ∃ (k : Nat) (z : Int) (cs : List Nat), k ≤ xs.length ∧ s7 = .int .i64 z ∧ Hid (z = (k : Int) - 1) ∧ Hid (Tab xs ys k ys.length cs) ∧ Laid w wr b4 G ga gb gr xs.length ys.length R zs us cs) (fun s7 _ _ => (intOf s7 + 1).toNat)
  case atStart => exact ⟨xs.length, _, _, Nat.le_refl _, rfl, rfl, T0, L⟩
  case round =>
    clear T0 L
    obtain ⟨k, z, cs, hk, rfl, hz, hT, L⟩ := hrel
    by_cases hk0 : k = 0
    · subst hk0
      obtain rfl : z = -1 := by have := hz.out; omega
      have t0 := L.t.c0
      have t1 := L.t.c1
      have t2 := L.t.c2
      have f0 := L.f.c0
      have f1 := L.f.c1
      have f2 := L.f.c2
      have z0 := L.f.z0
      have z1 := L.f.z1
      have z2 := L.f.z2
      have fl := L.f.lt
      simp only [nils] at f0 f1 f2
      have F := three_fill L.f (sl ga xs.length) (sl gb ys.length) (sl gr R)
      have HF := Lib.hid F
      clear F
      go_wp2
      have F := HF.out
      have hg := grown_fill wr b4 (sl ga xs.length) (sl gb ys.length) (sl gr R)
      have ka := (L.a.lt ga rfl).1
      have kb := (L.b.lt gb rfl).1
      have kl := L.l1
      refine bodyPost_ret (v := .agg #[sl ga xs.length, sl gb ys.length, sl gr R]) (by simp [results, Tryd.results38, go_sem, F.c0, F.c1, F.c2]) rfl ?_
      have hb4 : w.heap.size + 1 ≤ b4 + 1 := by have := HB4.out; omega
      exact ⟨ga, gb, gr, R, zs, us, cs, D, rfl, HRR.out.symm, HG.out, HNa.out, HNb.out, own_le (L.a.kept hg (.inr (by simp [Value.ownBlock]; omega))) hb4, own_le (L.b.kept hg (.inr (by simp [Value.ownBlock]; omega))) hb4, own_le (L.r.kept hg (.inr (by simp [Value.ownBlock]; exact fun e => L.n4 e.symm))) hb4, hT.out, L.g.grown hg L.g.size (fun k hk => by injection hk with hk; omega)⟩
    · obtain ⟨p, rfl⟩ : ∃ p, k = p + 1 := ⟨k - 1, by omega⟩
      obtain rfl : z = (p : Int) := by have := hz.out; omega
      have hp0 : (0 : Int) ≤ (p : Int) := Int.natCast_nonneg _
      go_wp2_with fail
      obtain ⟨wo, hwo⟩ : ∃ wo : World, wo = wr := ⟨_, rfl⟩
      rw [← hwo] at L ⊢
      clear hwo
      go_loopw [8] (fun s8 wr => ∃ (q : Nat) (z : Int) (cs : List Nat), q ≤ ys.length ∧ s8 = .int .i64 z ∧ Hid (z = (q : Int) - 1) ∧ Hid (Tab xs ys (p + 1) q cs) ∧ Laid w wr b4 G ga gb gr xs.length ys.length R zs us cs) (fun s8 _ => (intOf s8 + 1).toNat)
      case atStart => exact ⟨ys.length, _, _, Nat.le_refl _, rfl, rfl, hT, L⟩
      case round =>
        clear hT L
        obtain ⟨q, z, cs, hq, rfl, hz2, hT, L⟩ := hrel
        by_cases hq0 : q = 0
        · subst hq0
          obtain rfl : z = -1 := by have := hz2.out; omega
          go_wp2
          go_roundw
          case rel => exact ⟨p, _, cs, by omega, rfl, rfl, Tab.row hT.out, L⟩
          case measure => simp [intOf]
        · obtain ⟨j, rfl⟩ : ∃ j, q = j + 1 := ⟨q - 1, by omega⟩
          obtain rfl : z = (j : Int) := by have := hz2.out; omega
          have hj0 : (0 : Int) ≤ (j : Int) := Int.natCast_nonneg _
          obtain ⟨s, hs⟩ : ∃ s, xs[p]? = some s := ⟨_, List.getElem?_eq_getElem (by omega)⟩
          obtain ⟨t, ht⟩ : ∃ t, ys[j]? = some t := ⟨_, List.getElem?_eq_getElem (by omega)⟩
          obtain ⟨_, x, hx, _⟩ := HNa.out.2 p s hs
          obtain ⟨_, y, hy, _⟩ := HNb.out.2 j t ht
          have heq := Nums.eq HG.out HNa.out HNb.out hs ht hx hy
          have a1 := L.cellA hx
          have a2 := L.cellB hy
          have t0 := L.t.c0
          have t1 := L.t.c1
          have t2 := L.t.c2
          have hp1 : (p : Int) < (xs.length : Int) := by omega
          have hj1 : (j : Int) < (ys.length : Int) := by omega
          have HS := Lib.hid hs
          have HT := Lib.hid ht
          have HE := Lib.hid heq
          clear hs ht hx hy heq
          have hT0 := hT.out
          have hPlt : pl ys.length p j < R := by rw [← HRR.out]; exact plc_lt (by omega) (by omega)
          obtain ⟨v0, hv0⟩ : ∃ v0, cs[pl ys.length p j]? = some v0 := ⟨_, List.getElem?_eq_getElem (by rw [hT0.1]; exact plc_lt (by omega) (by omega))⟩
          have q12 : cs[pl ys.length (p + 1) (j + 1)]? = some (lc (xs.drop (p + 1)) (ys.drop (j + 1))) := hT0.2 (p + 1) (j + 1) (by omega) (by omega) (.inl (Nat.le_refl _))
          have q1 : cs[pl ys.length (p + 1) j]? = some (lc (xs.drop (p + 1)) (ys.drop j)) := hT0.2 (p + 1) j (by omega) (by omega) (.inl (Nat.le_refl _))
          have q2 : cs[pl ys.length p (j + 1)]? = some (lc (xs.drop p) (ys.drop (j + 1))) := hT0.2 p (j + 1) (by omega) (by omega) (.inr (.inr ⟨rfl, Nat.le_refl _⟩))
          have hP12 : pl ys.length (p + 1) (j + 1) < R := by rw [← HRR.out]; exact plc_lt (by omega) (by omega)
          have hP1 : pl ys.length (p + 1) j < R := by rw [← HRR.out]; exact plc_lt (by omega) (by omega)
          have hP2 : pl ys.length p (j + 1) < R := by rw [← HRR.out]; exact plc_lt (by omega) (by omega)
          have hstep := Tab.step (p := p) (q := j) hT0 (by omega) (by omega)
          have hlc := lc_step HS.out HT.out
          have b12 := lc_le_left (xs.drop (p + 1)) (ys.drop (j + 1))
          have b1 := lc_le_left (xs.drop (p + 1)) (ys.drop j)
          have b2 := lc_le_left (xs.drop p) (ys.drop (j + 1))
          simp only [List.length_drop] at b12 b1 b2
          have AT := Lib.hid (fun W => at_any (sl ga xs.length) (sl gr R) (some ⟨gb, 0, none⟩) ys.length ys.length p j (by omega) (by omega) (by omega) W)
          have L12 := fun W c hc => longest_any ga gb gr xs.length ys.length R (p + 1) (j + 1) c (by omega) (by omega) (by omega) hP12 W hc
          have L1 := fun W c hc => longest_any ga gb gr xs.length ys.length R (p + 1) j c (by omega) (by omega) (by omega) hP1 W hc
          have L2 := fun W c hc => longest_any ga gb gr xs.length ys.length R p (j + 1) c (by omega) (by omega) (by omega) hP2 W hc
          rw [show ((p + 1 : Nat) : Int) = (p : Int) + 1 from by omega] at L12 L1
          rw [show ((j + 1 : Nat) : Int) = (j : Int) + 1 from by omega] at L12 L2
          change Hid (Tab xs ys (p + 1) j (cs.set (pl ys.length p j) (lc (xs.drop p) (ys.drop j)))) at hstep
          have HLC := Lib.hid hlc
          clear hlc hT0
          generalize lc (xs.drop (p + 1)) (ys.drop (j + 1)) = c12 at *
          generalize lc (xs.drop (p + 1)) (ys.drop j) = c1 at *
          generalize lc (xs.drop p) (ys.drop (j + 1)) = c2 at *
          generalize lc (xs.drop p) (ys.drop j) = c0 at *
          generalize pl ys.length p j = P at *
          generalize pl ys.length (p + 1) (j + 1) = P12 at *
          generalize pl ys.length (p + 1) j = P1 at *
          generalize pl ys.length p (j + 1) = P2 at *
          have HL12 := Lib.hid L12
          have HL1 := Lib.hid L1
          have HL2 := Lib.hid L2
          have HV0 := Lib.hid hv0
          have HQ12 := Lib.hid q12
          have HQ1 := Lib.hid q1
          have HQ2 := Lib.hid q2
          clear L12 L1 L2 hv0 q12 q1 q2
          have hsp : IntKind.i64.wrap ((p : Int) + 1) = (p : Int) + 1 := IntWalk.i64_in _ (by omega)
          have hsj : IntKind.i64.wrap ((j : Int) + 1) = (j : Int) + 1 := IntWalk.i64_in _ (by omega)
          have hP0 : (0 : Int) ≤ (P : Int) := Int.natCast_nonneg _
          have hPR : (P : Int) < (R : Int) := by omega
          by_cases hxy : x = y
          · have h0 : c0 = c12 + 1 := by rw [HLC.out, if_pos (HE.out.1 hxy)]
            have H0 := Lib.hid h0
            clear h0
            subst hxy
            have hsu : IntKind.u16.wrap ((c12 : Int) + 1) = (c12 : Int) + 1 := by rw [IntKind.wrap_u16]; omega
            go_wp2_with fail
            go_quiet (fail)
            go_wp2_with fail
            replace L := L.below (below_drewN (Below.refl _ wr) nq).drew
            clear t0 t1 t2 a1 a2
            go_region_held3 (fun w' => w'.cell? ⟨G, 0, none⟩ = some (.slice (some ⟨ga, 0, none⟩) xs.length xs.length) ∧ w'.cell? ⟨G, 1, none⟩ = some (.slice (some ⟨gb, 0, none⟩) ys.length ys.length) ∧ w'.cell? ⟨G, 2, none⟩ = some (.slice (some ⟨gr, 0, none⟩) R R)) (first | exact ⟨(LB.t.far LB.nG P _).c0, (LB.t.far LB.nG P _).c1, (LB.t.far LB.nG P _).c2⟩ | exact ⟨LB.t.c0, LB.t.c1, LB.t.c2⟩ | exact ⟨LA.t.c0, LA.t.c1, LA.t.c2⟩ | exact ⟨L.t.c0, L.t.c1, L.t.c2⟩ | go_keep)
              (first
                | (go_at_call 42; (with_reducible refine (HL12.out _ _ (LA.cellR HQ12.out)).mono ?_); rintro e wB ⟨rfl, hbB⟩; have LB := LA.below hbB; have k1 := LB.cellR HV0.out; have k2 := LB.freeR P)
                | (go_at_call 72; (with_reducible refine (AT.out _).mono ?_); rintro e wA ⟨rfl, hbA⟩; have LA := L.below hbA))
            have LD := LB.store P (c12 + 1)
            rw [show ((c12 + 1 : Nat) : Int) = (c12 : Int) + 1 from by omega] at LD
            clear k1 k2
            go_wp2
            go_roundw
            case rel => first | exact ⟨j, _, _, by omega, rfl, rfl, by rw [← H0.out]; exact hstep, LD⟩ | exact ⟨j, _, _, by omega, rfl, rfl, by rw [← H0.out]; exact hstep, LE⟩
            case measure => simp [intOf]
          · have hxyb : ((x : Int) == (y : Int)) = false := by simpa using fun e : (x : Int) = (y : Int) => hxy (by omega)
            have h0 : c0 = max c1 c2 := by rw [HLC.out, if_neg (fun e => hxy (HE.out.2 e))]
            have H0 := Lib.hid h0
            clear h0
            go_wp2_with fail
            go_quiet (fail)
            go_wp2_with fail
            replace L := L.below (below_drewN (Below.refl _ wr) nq).drew
            clear t0 t1 t2 a1 a2
            go_region_held3 (fun w' => w'.cell? ⟨G, 0, none⟩ = some (.slice (some ⟨ga, 0, none⟩) xs.length xs.length) ∧ w'.cell? ⟨G, 1, none⟩ = some (.slice (some ⟨gb, 0, none⟩) ys.length ys.length) ∧ w'.cell? ⟨G, 2, none⟩ = some (.slice (some ⟨gr, 0, none⟩) R R)) (first | exact ⟨(LC.t.far LC.nG P _).c0, (LC.t.far LC.nG P _).c1, (LC.t.far LC.nG P _).c2⟩ | exact ⟨LC.t.c0, LC.t.c1, LC.t.c2⟩ | exact ⟨LB.t.c0, LB.t.c1, LB.t.c2⟩ | exact ⟨LA.t.c0, LA.t.c1, LA.t.c2⟩ | exact ⟨L.t.c0, L.t.c1, L.t.c2⟩ | go_keep)
              (first
                | (go_at_call 42; (with_reducible refine (HL2.out _ _ (LB.cellR HQ2.out)).mono ?_); rintro e wC ⟨rfl, hbC⟩; have LC := LB.below hbC; have k1 := LC.cellR HV0.out; have k2 := LC.freeR P)
                | (go_at_call 42; (with_reducible refine (HL1.out _ _ (LA.cellR HQ1.out)).mono ?_); rintro e wB ⟨rfl, hbB⟩; have LB := LA.below hbB)
                | (go_at_call 72; (with_reducible refine (AT.out _).mono ?_); rintro e wA ⟨rfl, hbA⟩; have LA := L.below hbA))
            have LD := LC.store P (max c1 c2)
            have LE := LD
            rw [show ((max c1 c2 : Nat) : Int) = if c1 < c2 then (c2 : Int) else (c1 : Int) from by split <;> omega] at LE
            rw [show ((max c1 c2 : Nat) : Int) = max (c1 : Int) (c2 : Int) from by omega] at LD
            clear k1 k2
            go_wp2
            go_roundw
            case rel => first | exact ⟨j, _, _, by omega, rfl, rfl, by rw [← H0.out]; exact hstep, LD⟩ | exact ⟨j, _, _, by omega, rfl, rfl, by rw [← H0.out]; exact hstep, LE⟩
            case measure => simp [intOf]

end Go.Proofs.YtdpoeagmeiedcaaDoor
