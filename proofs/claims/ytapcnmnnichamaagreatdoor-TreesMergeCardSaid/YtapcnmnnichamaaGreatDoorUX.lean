/-
  take: the chunk's three texts, each in a row of its own.
  between: what lies ahead of the next kept line.
  Behind take in kept, the plain part.
-/
import Derived.Test.YtapcnmnnichamaaGreatDoorVC
import Derived.Deep.AppendLies
import Derived.Deep.RegionLaw
import Derived.Deep.DeepCutAuto
import Derived.Deep.CutBlock

namespace Go.Proofs.YtapcnmnnichamaaGreatDoor.Mg
open Go.RowKit

set_option maxRecDepth 100000 in
set_option maxHeartbeats 6000000 in
theorem take_any (w : World) (C n c m d r f i j k i2 j2 k2 : Nat) (A B D : Option Addr) (vp vq v8 : Value) (xs ys zs : List ByteArray) (h : Cutr w C (.slice A n c) (.slice B m d) (.slice D r f) vp vq (.int .i64 (i : Int)) (.int .i64 (j : Int)) (.int .i64 (k : Int)) v8)
    (h0 : Strs w (.slice A n c) xs) (h1 : Strs w (.slice B m d) ys) (h2 : Strs w (.slice D r f) zs) (hi : i ≤ i2) (hj : j ≤ j2) (hk : k ≤ k2) (ji : i2 ≤ n) (jj : j2 ≤ m) (jk : k2 ≤ r) (nl : n ≤ 1000) (ml : m ≤ 1000) (rl : r ≤ 1000) :
    Calls Tryz.prog 128 #[.pointer (some ⟨C, 0, none⟩), .int .i64 i2, .int .i64 j2, .int .i64 k2] w (Taken w C (.slice A n c) (.slice B m d) (.slice D r f) vp vq v8 i2 j2 k2 (cutL2 xs i i2) (cutL2 ys j j2) (cutL2 zs k k2)) := by
  have ca := h0.len.2.1
  have cb := h1.len.2.1
  have cd := h2.len.2.1
  have b1 : (0 : Int) ≤ (i : Int) := by omega
  have b2 : (0 : Int) ≤ (j : Int) := by omega
  have b3 : (0 : Int) ≤ (k : Int) := by omega
  have b4 : (i : Int) ≤ (i2 : Int) := by omega
  have b5 : (j : Int) ≤ (j2 : Int) := by omega
  have b6 : (k : Int) ≤ (k2 : Int) := by omega
  have b7 : (i2 : Int) ≤ (c : Int) := by omega
  have b8 : (j2 : Int) ≤ (d : Int) := by omega
  have b9 : (k2 : Int) ≤ (f : Int) := by omega
  have hS := And.intro h.c0 (And.intro h.c1 (And.intro h.c2 (And.intro h.c5 (And.intro h.c6 h.c7))))
  have hl1 : (cutL2 xs i i2).length ≤ 1000 := by unfold cutL2; rw [List.length_take]; omega
  have hl2 : (cutL2 ys j j2).length ≤ 1000 := by unfold cutL2; rw [List.length_take]; omega
  have hl3 : (cutL2 zs k k2).length ≤ 1000 := by unfold cutL2; rw [List.length_take]; omega
  have S0 : Tk w (w.alloc (.cells #[.slice none 0 0, .slice none 0 0, .slice none 0 0, .bool false, .slice none 0 0] 161)) w.heap.size C (.slice A n c) (.slice B m d) (.slice D r f) vp vq (.int .i64 (i : Int)) (.int .i64 (j : Int)) (.int .i64 (k : Int)) v8 (.slice (if c = i then A else Option.map (fun x => x.add i) A) (i2 - i) (c - i)) (.slice (if d = j then B else Option.map (fun x => x.add j) B) (j2 - j) (d - j)) (.slice (if f = k then D else Option.map (fun x => x.add k) D) (k2 - k) (f - k)) (cutL2 xs i i2) (cutL2 ys j j2) (cutL2 zs k k2) none none none none := tk_start h ((h0.cut (by omega)).take (by omega)) ((h1.cut (by omega)).take (by omega)) ((h2.cut (by omega)).take (by omega))
  clear h h0 h1 h2
  obtain ⟨P1, hP1⟩ : ∃ P, (if c = i then A else Option.map (fun x => x.add i) A) = P := ⟨_, rfl⟩
  obtain ⟨P2, hP2⟩ : ∃ P, (if d = j then B else Option.map (fun x => x.add j) B) = P := ⟨_, rfl⟩
  obtain ⟨P3, hP3⟩ : ∃ P, (if f = k then D else Option.map (fun x => x.add k) D) = P := ⟨_, rfl⟩
  rw [hP1, hP2, hP3] at S0
  go_enter Tryz.func128, Tryz.ntmps128
  go_upto_region 1 with fail
  have hS1 := S0.sq
  generalize (w.alloc (.cells #[.slice none 0 0, .slice none 0 0, .slice none 0 0, .bool false, .slice none 0 0] 161)) = W0 at *
  obtain ⟨T, hT⟩ : ∃ T, T = w.heap.size := ⟨_, rfl⟩
  rw [← hT] at S0 ⊢
  have HT := Lib.hid hT
  clear hT
  go_cut [9] (fun x9 wx => TkMid w T C (.slice A n c) (.slice B m d) (.slice D r f) vp vq (.int .i64 (i : Int)) (.int .i64 (j : Int)) (.int .i64 (k : Int)) v8 (cutL2 xs i i2) (cutL2 ys j j2) (cutL2 zs k k2) x9 wx)
  case first =>
    go_region_held3 (fun w' => w'.cell? ⟨C, 0, none⟩ = some (.slice A n c) ∧ w'.cell? ⟨C, 1, none⟩ = some (.slice B m d) ∧ w'.cell? ⟨C, 2, none⟩ = some (.slice D r f) ∧ w'.cell? ⟨C, 5, none⟩ = some (.int .i64 (i : Int)) ∧ w'.cell? ⟨C, 6, none⟩ = some (.int .i64 (j : Int)) ∧ w'.cell? ⟨C, 7, none⟩ = some (.int .i64 (k : Int))) (with_reducible first | exact S3.sq | exact S3.lay.sq | exact S2.sq | exact S2.lay.sq | exact S1.sq | exact S1.lay.sq | exact S0.sq | exact S0.drew.sq | exact S0.lay.sq | exact S0.lay.drew.sq | exact mid_sq (tk_close S3) | exact mid_sq (tk_close_whole S3) | exact mid_sq (tk_close S3.lay)) (first
      | (go_at_call 131; (first | (with_reducible refine (tk_call3 S2 hl3).mono ?_) | (with_reducible refine (tk_call3 S2.lay hl3).mono ?_) | (with_reducible refine (tk_call3 S2.drew hl3).mono ?_) | (with_reducible refine (tk_call3 S2.lay.drew hl3).mono ?_) | (with_reducible refine (tk_call3 S2.drew.drew hl3).mono ?_) | (with_reducible refine (tk_call3 S2.lay.drew.drew hl3).mono ?_) | (with_reducible refine (tk_call3 S2.drew.drew.drew hl3).mono ?_) | (with_reducible refine (tk_call3 S2.lay.drew.drew.drew hl3).mono ?_)); rintro e w3 ⟨s3, rfl, S3⟩; obtain ⟨A3, n3, c3, rfl⟩ := own_form (S3.r3 _ rfl); try (have F3 := (S3.x _ rfl).2.2; have f0 := F3.c0; have f1 := F3.c1; have f2 := F3.c2; have f3 := F3.c3; have f4 := F3.c4; have y0 := F3.z 0; have y1 := F3.z 1; have y2 := F3.z 2; have y3 := F3.z 3; have y4 := F3.z 4; have fl := F3.lt; clear F3))
      | (go_at_call 131; (first | (with_reducible refine (tk_call2 S1 hl2).mono ?_) | (with_reducible refine (tk_call2 S1.lay hl2).mono ?_) | (with_reducible refine (tk_call2 S1.drew hl2).mono ?_) | (with_reducible refine (tk_call2 S1.lay.drew hl2).mono ?_) | (with_reducible refine (tk_call2 S1.drew.drew hl2).mono ?_) | (with_reducible refine (tk_call2 S1.lay.drew.drew hl2).mono ?_) | (with_reducible refine (tk_call2 S1.drew.drew.drew hl2).mono ?_) | (with_reducible refine (tk_call2 S1.lay.drew.drew.drew hl2).mono ?_)); rintro e w2 ⟨s2, rfl, S2⟩; obtain ⟨A2, n2, c2, rfl⟩ := own_form (S2.r2 _ rfl); try (have F2 := (S2.x _ rfl).2.2; have f0 := F2.c0; have f1 := F2.c1; have f2 := F2.c2; have f3 := F2.c3; have f4 := F2.c4; have y0 := F2.z 0; have y1 := F2.z 1; have y2 := F2.z 2; have y3 := F2.z 3; have y4 := F2.z 4; have fl := F2.lt; clear F2))
      | (go_at_call 131; (first | (with_reducible refine (tk_call1 S0 hl1).mono ?_) | (with_reducible refine (tk_call1 S0.lay hl1).mono ?_) | (with_reducible refine (tk_call1 S0.drew hl1).mono ?_) | (with_reducible refine (tk_call1 S0.lay.drew hl1).mono ?_) | (with_reducible refine (tk_call1 S0.drew.drew hl1).mono ?_) | (with_reducible refine (tk_call1 S0.lay.drew.drew hl1).mono ?_) | (with_reducible refine (tk_call1 S0.drew.drew.drew hl1).mono ?_) | (with_reducible refine (tk_call1 S0.lay.drew.drew.drew hl1).mono ?_)); rintro e w1 ⟨s1, rfl, S1⟩; obtain ⟨A1, n1, c1, rfl⟩ := own_form (S1.r1 _ rfl); try (have F1 := (S1.x _ rfl).2.2; have f0 := F1.c0; have f1 := F1.c1; have f2 := F1.c2; have f3 := F1.c3; have f4 := F1.c4; have y0 := F1.z 0; have y1 := F1.z 1; have y2 := F1.z 2; have y3 := F1.z 3; have y4 := F1.z 4; have fl := F1.lt; clear F1)))
    all_goals (go_wp2_with fail; go_meet)
    all_goals (with_reducible first | exact tk_close S3 | exact tk_close_whole S3 | exact tk_close S3.lay)
  clear hS hS1 S0 hP1 hP2 hP3 hl1 hl2 hl3
  obtain ⟨X, A1, A2, A3, n1, n2, n3, c1, c2, c3, rfl, x1, x2, x3, o1, o2, o3, q, g, cl, tl, t⟩ := hcut
  have e5 := q.c5
  have e6 := q.c6
  have e7 := q.c7
  have z5 := q.z 5
  have z6 := q.z 6
  have z7 := q.z 7
  have f0 := x3.c0
  have f1 := x3.c1
  have f2 := x3.c2
  have f3 := x3.c3
  have f4 := x3.c4
  have y0 := t.c0
  have y1 := t.c1
  have y2 := t.c2
  have y3 := t.c3
  have y4 := t.c4
  have r0 := t.z 0
  have r1 := t.z 1
  have r2 := t.z 2
  have r3 := t.z 3
  have r4 := t.z 4
  have xl := x3.lt
  have tl' := t.lt
  have cl' := q.lt
  have n1 : C ≠ X := by omega
  have n2 : X ≠ C := by omega
  have n3 : C ≠ T := by omega
  have n4 : T ≠ C := by omega
  have n5 : X ≠ T := Ne.symm x2
  have HC := Lib.hid (taken_close i2 j2 k2 o1 o2 o3 q g cl tl t)
  have HR := fun a b c d e => Lib.hid (fill_row (a := a) (b := b) (c := c) (d := d) (e := e) ((t.apart (((grown_store wc C 5 (.int .i64 (i2 : Int))).trans (grown_store _ C 6 (.int .i64 (j2 : Int)))).trans (grown_store _ C 7 (.int .i64 (k2 : Int)))) n4)))
  clear x3 o1 o2 o3 q g t
  go_wp2_with fail
  refine bodyPost_ret (results_cell_row rfl _ _ T 161 _ (0, 0) _ rfl (HR _ _ _ _ _).out Tryz.underlying161 rfl rfl) rfl ?_
  exact HC.out

end Go.Proofs.YtapcnmnnichamaaGreatDoor.Mg

namespace Go.Proofs.YtapcnmnnichamaaGreatDoor.Mg
open Go.RowKit

theorem firstC_yes {xs ys zs : List ByteArray} {i j k i2 j2 k2 : Nat} (h : i < i2 ∨ j < j2 ∨ k < k2) : firstC xs ys zs i j k i2 j2 k2 = [decideC (cutL2 xs i i2) (cutL2 ys j j2) (cutL2 zs k k2)] := by
  unfold firstC
  rw [if_pos h]
theorem firstC_no {xs ys zs : List ByteArray} {i j k i2 j2 k2 : Nat} (h : ¬(i < i2 ∨ j < j2 ∨ k < k2)) : firstC xs ys zs i j k i2 j2 k2 = [] := by
  unfold firstC
  rw [if_neg h]

set_option maxRecDepth 100000 in
set_option maxHeartbeats 4000000 in
theorem between_any (w0 w : World) (C n c m d r f i j k i2 j2 k2 : Nat) (A B D : Option Addr) (vp vq : Value) (xs ys zs : List ByteArray) (p q : List (Option Nat)) (cs : List (Ck ByteArray))
    (h : Cs w0 w C (.slice A n c) (.slice B m d) (.slice D r f) vp vq xs ys zs p q i j k cs) (lp : p.length = n) (lq : q.length = n) (hn : n ≤ 256) (hm : m ≤ 256) (hr : r ≤ 256)
    (hi : i ≤ i2) (hj : j ≤ j2) (hk : k ≤ k2) (ji : i2 ≤ n) (jj : j2 ≤ m) (jk : k2 ≤ r) (hy : i2 < n → p[i2]? = some (some j2) ∧ q[i2]? = some (some k2)) (hf : i2 = n → j2 = m ∧ k2 = r) (lcs : cs.length ≤ 2000) :
    Calls Tryz.prog 106 #[.pointer (some ⟨C, 0, none⟩), .int .i64 i2] w fun e w' => e = .returned (.tuple #[]) ∧ Cs w0 w' C (.slice A n c) (.slice B m d) (.slice D r f) vp vq xs ys zs p q i2 j2 k2 (cs ++ firstC xs ys zs i j k i2 j2 k2) := by
  obtain ⟨i0, hi0, hz0, hz1, hz2⟩ := info_parts chunkInfo
  obtain ⟨v8, hc, ho⟩ := h.c
  have t0 := hc.c0
  have t1 := hc.c1
  have t2 := hc.c2
  have t3 := hc.c3
  have t4 := hc.c4
  have HC := Lib.hid h
  have HY := Lib.hid hy
  have HF := Lib.hid hf
  have LP := Lib.hid lp
  have LQ := Lib.hid lq
  clear h hc ho hy hf lp lq
  go_enter Tryz.func106, Tryz.ntmps106
  go_wp2_with fail
  go_quiet (fail)
  go_upto_if 23 with (fail)
  have hw := HC.out.below (below_drewN (Below.refl _ w) nq)
  have t0' : (w.drewN nq).cell? ⟨C, 0, none⟩ = some (.slice A n c) := t0
  have t3' : (w.drewN nq).cell? ⟨C, 3, none⟩ = some vp := t3
  have t4' : (w.drewN nq).cell? ⟨C, 4, none⟩ = some vq := t4
  clear t0 t1 t2 t3 t4 HC
  generalize w.drewN nq = wd at *
  go_cut [4, 5] (fun x4 x5 wx => x4 = .int .i64 (j2 : Int) ∧ x5 = .int .i64 (k2 : Int) ∧ Cs w0 wx C (.slice A n c) (.slice B m d) (.slice D r f) vp vq xs ys zs p q i j k cs)
  case first =>
    by_cases hlt : i2 < n
    · have i9 : (i2 : Int) < (n : Int) := by omega
      obtain ⟨hx, hy⟩ := HY.out hlt
      obtain ⟨g1, d1, rfl, k1⟩ := hw.p1.cell hx
      obtain ⟨g2, d2, rfl, k2'⟩ := hw.p2.cell hy
      simp only [pz] at k1 k2'
      have i1 : (0 : Int) ≤ (i2 : Int) := by omega
      have i3 : (i2 : Int) < (p.length : Int) := by have := LP.out; omega
      have i4 : (i2 : Int) < (q.length : Int) := by have := LQ.out; omega
      clear hx hy
      go_wp2_with fail
      go_quiet (fail)
      go_wp2_with fail
      go_meet
      exact ⟨rfl, rfl, hw.below (below_drewN (Below.refl _ wd) _)⟩
    · obtain ⟨rfl, rfl⟩ := HF.out (by omega)
      have i9 : ¬ (i2 : Int) < (n : Int) := by omega
      go_wp2_with fail
      go_meet
      exact ⟨rfl, rfl, hw⟩
  clear hw t0' t3' t4'
  obtain ⟨rfl, rfl, hw⟩ := hcut
  obtain ⟨V8, hv, ho⟩ := hw.c
  have t5 := hv.c5
  have t6 := hv.c6
  have t7 := hv.c7
  go_upto_region 3 with (fail)
  go_cut [59] (fun x59 wx => x59 = .bool (decide (i < i2 ∨ j < j2 ∨ k < k2)) ∧ wx = wc)
  case first =>
    by_cases e1 : i < i2
    · have f1 : (i : Int) < (i2 : Int) := by omega
      have HD := Lib.hid (decide_eq_true (show i < i2 ∨ j < j2 ∨ k < k2 from .inl e1))
      clear e1
      go_wp2_with fail
      go_meet
      exact ⟨by rw [HD.out], rfl⟩
    · have f1 : ¬ (i : Int) < (i2 : Int) := by omega
      by_cases e2 : j < j2
      · have f2 : (j : Int) < (j2 : Int) := by omega
        have HD := Lib.hid (decide_eq_true (show i < i2 ∨ j < j2 ∨ k < k2 from .inr (.inl e2)))
        clear e1 e2
        go_wp2_with fail
        go_meet
        exact ⟨by rw [HD.out], rfl⟩
      · have f2 : ¬ (j : Int) < (j2 : Int) := by omega
        by_cases e3 : k < k2
        · have f3 : (k : Int) < (k2 : Int) := by omega
          have HD := Lib.hid (decide_eq_true (show i < i2 ∨ j < j2 ∨ k < k2 from .inr (.inr e3)))
          clear e1 e2 e3
          go_wp2_with fail
          go_meet
          exact ⟨by rw [HD.out], rfl⟩
        · have f3 : ¬ (k : Int) < (k2 : Int) := by omega
          have HD := Lib.hid (decide_eq_false (show ¬(i < i2 ∨ j < j2 ∨ k < k2) from fun h => h.elim e1 (fun h => h.elim e2 e3)))
          clear e1 e2 e3
          go_wp2_with fail
          go_meet
          exact ⟨by rw [HD.out], rfl⟩
  obtain ⟨rfl, hwc⟩ := hcut
  subst hwc
  clear t5 t6 t7
  by_cases hD : i < i2 ∨ j < j2 ∨ k < k2
  · have HD := Lib.hid (firstC_yes (xs := xs) (ys := ys) (zs := zs) hD)
    rw [decide_eq_true hD]
    clear hD
    have HW := Lib.hid hw
    have HV := Lib.hid hv
    have HO := Lib.hid ho
    clear hw hv ho
    go_wp2_with fail
    refine (take_any _ C _ _ _ _ _ _ i j k i2 j2 k2 _ _ _ _ _ V8 xs ys zs HV.out (HW.out.a.below HW.out.g) (HW.out.b.below HW.out.g) (HW.out.d.below HW.out.g) hi hj hk ji jj jk (by omega) (by omega) (by omega)).mono ?_
    rintro e w1 ⟨A1, A2, A3, m1, m2, m3, c1, c2, c3, rfl, o1, o2, o3, hq, hg⟩
    have O1 := Lib.hid o1
    have O2 := Lib.hid o2
    have O3 := Lib.hid o3
    have HQ := Lib.hid hq
    have HG := Lib.hid hg
    clear o1 o2 o3 hq hg
    go_wp2_with fail
    refine (decide_any _ w1.heap.size _ _ _ (cutL2 xs i i2) (cutL2 ys j j2) (cutL2 zs k k2) (Five.new _ _ _ _ _ _) ((Strs.of_own O1.out rfl).alloc _) ((Strs.of_own O2.out rfl).alloc _) ((Strs.of_own O3.out rfl).alloc _) (by unfold cutL2; rw [List.length_take]; omega) (by unfold cutL2; rw [List.length_take]; omega)).mono ?_
    rintro e w2 hd
    obtain ⟨v4, rfl, bt⟩ := bt_of HW.out HV.out HO.out O1.out O2.out O3.out HQ.out HG.out hd
    clear HW HV HO O1 O2 O3 HQ HG hd
    generalize w1.heap.size = X at *
    obtain ⟨A4, m4, c4, rfl⟩ := own_form bt.o4
    have BT := Lib.hid bt
    have t8 := bt.c.c8
    have z8 := bt.c.z 8
    have f0 := bt.x.c0
    have f1 := bt.x.c1
    have f2 := bt.x.c2
    have f3 := bt.x.c3
    have f4 := bt.x.c4
    obtain ⟨vals, hvals, hck⟩ := bt.o
    have xl := bt.x.lt
    have cl := bt.c.lt
    have hXC : X ≠ C := bt.x.ty.ne bt.c.ty (by decide)
    have hCX : C ≠ X := Ne.symm hXC
    have hCK := Lib.hid hck
    have hbase := (Nat.le_trans bt.g.size (by simp) : w0.heap.size ≤ ((w2.alloc (.cells #[.slice A1 m1 c1, .slice A2 m2 c2, .slice A3 m3 c3, .bool (decideC (cutL2 xs i i2) (cutL2 ys j j2) (cutL2 zs k k2)).clash, .slice A4 m4 c4] 161)).drew).heap.size)
    clear bt hck
    generalize hdk : decideC (cutL2 xs i i2) (cutL2 ys j j2) (cutL2 zs k k2) = dk at *
    clear hdk
    go_wp2_with fail
    go_region_law
      ((refine step_append_lies _ (by rfl) _ _ _ (by rfl) w0.heap.size 161 i0 _ 5 104 Tryz.underlying153 hi0 hz0 hz1 hz2 rfl (by omega) V8 cs.length vals (by rfl) ((hvals.alloc _).drew)
            ⟨w2.heap.size, 0, none⟩ 1 1 [.slice A1 m1 c1, .slice A2 m2 c2, .slice A3 m3 c3, .bool dk.clash, .slice A4 m4 c4] (by rfl) (by rfl) (World.news_of_block (cs := #[.slice A1 m1 c1, .slice A2 m2 c2, .slice A3 m3 c3, .bool dk.clash, .slice A4 m4 c4]) (t := 161) (fr := (0, 0)) (heap_alloc_new w2 _)) (by simp [Value.oneCell'])
            (by omega) (by unfold maxLen; omega) (by omega) hbase (w2.heap.size + 1) (by simp) ?_; intro gg cap w3 hown1 hgrow hat hlt; have BG := bt_grown BT.out hgrow; have kc := BG.1; have kz := BG.2.1))
    all_goals (go_wp2_with fail)
    all_goals go_end0
    all_goals (rw [HD.out]; exact ⟨rfl, bt_close BT.out hvals hCK.out hgrow hown1⟩)
  · have HD := Lib.hid (firstC_no (xs := xs) (ys := ys) (zs := zs) hD)
    rw [decide_eq_false hD]
    obtain rfl : i = i2 := by omega
    obtain rfl : j = j2 := by omega
    obtain rfl : k = k2 := by omega
    clear hD
    go_wp2_with fail
    go_end0
    rw [HD.out, List.append_nil]
    exact ⟨rfl, hw⟩

end Go.Proofs.YtapcnmnnichamaaGreatDoor.Mg

namespace Go.Proofs.YtapcnmnnichamaaGreatDoor.Mg
open Go.RowKit

/-- Behind take: the three pieces, each in a row of its own; the cutter stands behind them. -/
structure Tn (w0 w : World) (C : Nat) (v0 v1 v2 vp vq v8 a b d : Value) (xs ys zs l1 l2 l3 : List ByteArray) (p q : List (Option Nat)) (i j k : Nat) (cs : List (Ck ByteArray)) : Prop where
  c : Cutr w C v0 v1 v2 vp vq (.int .i64 (i : Int)) (.int .i64 (j : Int)) (.int .i64 (k : Int)) v8
  o : OutR w w0.heap.size v8 cs
  o1 : Tx w w0.heap.size a l1
  o2 : Tx w w0.heap.size b l2
  o3 : Tx w w0.heap.size d l3
  a : Strs w0 v0 xs
  b : Strs w0 v1 ys
  d : Strs w0 v2 zs
  p1 : Pl w vp p
  p2 : Pl w vq q
  g : Below w0.heap.size w0 w
  cb : w0.heap.size ≤ C

abbrev ck0 (l1 l2 l3 : List ByteArray) : Ck ByteArray := ⟨l1, l2, l3, false, []⟩

section
variable {w0 w w1 : World} {C X : Nat} {v0 v1 v2 vp vq v8 a b d e : Value} {xs ys zs l1 l2 l3 : List ByteArray} {p q : List (Option Nat)} {i j k i2 j2 k2 : Nat} {cs : List (Ck ByteArray)}

theorem tn_of (h : Cs w0 w C v0 v1 v2 vp vq xs ys zs p q i j k cs) (hv : Cutr w C v0 v1 v2 vp vq (.int .i64 (i : Int)) (.int .i64 (j : Int)) (.int .i64 (k : Int)) v8) (ho : OutR w w0.heap.size v8 cs)
    (o1 : Tx w1 w.heap.size a l1) (o2 : Tx w1 w.heap.size b l2) (o3 : Tx w1 w.heap.size d l3)
    (hq : Cutr w1 C v0 v1 v2 vp vq (.int .i64 (i2 : Int)) (.int .i64 (j2 : Int)) (.int .i64 (k2 : Int)) v8) (hg : w.grownBy w1 (some C)) :
    Tn w0 w1 C v0 v1 v2 vp vq v8 a b d xs ys zs l1 l2 l3 p q i2 j2 k2 cs := by
  have hle := h.g.size
  exact ⟨hq, ho.kept hg hv.ty (by decide) (ho.ne hv.ty (by decide)), own_le o1 hle, own_le o2 hle, own_le o3 hle, h.a, h.b, h.d, h.p1.kept hg (.inr (own_apart h.p1 hv.ty (by decide))), h.p2.kept hg (.inr (own_apart h.p2 hv.ty (by decide))),
    h.g.grown hg hle (fun k hk => by injection hk with hk; have := h.cb; omega), h.cb⟩

theorem Tn.below (h : Tn w0 w C v0 v1 v2 vp vq v8 a b d xs ys zs l1 l2 l3 p q i j k cs) (hb : Below w.heap.size w w1) : Tn w0 w1 C v0 v1 v2 vp vq v8 a b d xs ys zs l1 l2 l3 p q i j k cs :=
  ⟨h.c.below hb, h.o.below hb, own_keep h.o1 hb, own_keep h.o2 hb, own_keep h.o3 hb, h.a, h.b, h.d, own_keep h.p1 hb, own_keep h.p2 hb, h.g.trans (hb.mono h.g.size), h.cb⟩

/-- The chunk's block is laid behind it. -/
theorem Tn.lay (h : Tn w0 w C v0 v1 v2 vp vq v8 a b d xs ys zs l1 l2 l3 p q i j k cs) :
    Bt w0 (w.alloc (.cells #[a, b, d, .bool false, .slice none 0 0] 161)) C w.heap.size v0 v1 v2 vp vq v8 a b d (.slice none 0 0) xs ys zs p q i j k cs (ck0 l1 l2 l3) := by
  have h1 := h.below ((Below.refl w.heap.size w).alloc (Nat.le_refl _) (.cells #[a, b, d, .bool false, .slice none 0 0] 161))
  refine ⟨h1.c, h1.o, Five.new w _ _ _ _ _, fun hc => ?_, h1.o1, h1.o2, h1.o3, World.ownsRow_nil _ _ _ _, h.a, h.b, h.d, h1.p1, h1.p2, h1.g, h.cb⟩
  obtain ⟨vals, g1, _⟩ := h.o
  have := (g1.lt _ hc).2
  omega

/-- The chunk's block was laid ahead of it. -/
theorem Tn.fill (h : Tn w0 w C v0 v1 v2 vp vq v8 a b d xs ys zs l1 l2 l3 p q i j k cs) {u0 u1 u2 u3 u4 : Value} (hx : Five w X u0 u1 u2 u3 u4) (nx : v8.ownBlock ≠ some X) (hX : w0.heap.size ≤ X) :
    Bt w0 (((((w.setCell ⟨X, 0, none⟩ a).setCell ⟨X, 1, none⟩ b).setCell ⟨X, 2, none⟩ d).setCell ⟨X, 3, none⟩ (.bool false)).setCell ⟨X, 4, none⟩ (.slice none 0 0)) C X v0 v1 v2 vp vq v8 a b d (.slice none 0 0) xs ys zs p q i j k cs (ck0 l1 l2 l3) := by
  have hg := fill_grown w X a b d (.bool false) (.slice none 0 0)
  have hXC : X ≠ C := hx.ty.ne h.c.ty (by decide)
  exact ⟨h.c.apart hg (Ne.symm hXC), h.o.kept hg hx.ty (by decide) nx, five_fill hx _ _ _ _ _, nx, h.o1.kept hg (.inr (own_apart h.o1 hx.ty (by decide))), h.o2.kept hg (.inr (own_apart h.o2 hx.ty (by decide))), h.o3.kept hg (.inr (own_apart h.o3 hx.ty (by decide))), World.ownsRow_nil _ _ _ _, h.a, h.b, h.d,
    h.p1.kept hg (.inr (own_apart h.p1 hx.ty (by decide))), h.p2.kept hg (.inr (own_apart h.p2 hx.ty (by decide))), h.g.grown hg h.g.size (fun k hk => by injection hk with hk; omega), h.cb⟩

theorem Bt.below {ck : Ck ByteArray} (h : Bt w0 w C X v0 v1 v2 vp vq v8 a b d e xs ys zs p q i j k cs ck) (hb : Below w.heap.size w w1) : Bt w0 w1 C X v0 v1 v2 vp vq v8 a b d e xs ys zs p q i j k cs ck :=
  ⟨h.c.below hb, h.o.below hb, h.x.below hb, h.nx, own_keep h.o1 hb, own_keep h.o2 hb, own_keep h.o3 hb, own_keep h.o4 hb, h.a, h.b, h.d, own_keep h.p1 hb, own_keep h.p2 hb, h.g.trans (hb.mono h.g.size), h.cb⟩

/-- What comes of it is written. -/
theorem Bt.out {v : Value} (h : Bt w0 w C X v0 v1 v2 vp vq v8 a b d e xs ys zs p q i j k cs (ck0 l1 l2 l3)) (hX : w0.heap.size ≤ X) (ho : Tx w w0.heap.size v l1) :
    Bt w0 (w.setCell ⟨X, 4, none⟩ v) C X v0 v1 v2 vp vq v8 a b d v xs ys zs p q i j k cs ⟨l1, l2, l3, false, l1⟩ := by
  have hg := grown_store w X 4 v
  have hXC : X ≠ C := h.x.ty.ne h.c.ty (by decide)
  have cc : ∀ k : Nat, k ≠ 4 → (w.setCell ⟨X, 4, none⟩ v).cell? ⟨X, k, none⟩ = w.cell? ⟨X, k, none⟩ := fun k hk => World.cell?_setCell_other w _ _ v (by simp)
  have hx : Five (w.setCell ⟨X, 4, none⟩ v) X a b d (.bool false) v :=
    ⟨(cc 0 (by omega)).trans h.x.c0, (cc 1 (by omega)).trans h.x.c1, (cc 2 (by omega)).trans h.x.c2, (cc 3 (by omega)).trans h.x.c3, set_same h.x.c4, fun k => by simp [h.x.z k], row_set h.x.row 4 v⟩
  exact ⟨h.c.apart hg (Ne.symm hXC), h.o.kept hg h.x.ty (by decide) h.nx, hx, h.nx, h.o1.kept hg (.inr (own_apart h.o1 h.x.ty (by decide))), h.o2.kept hg (.inr (own_apart h.o2 h.x.ty (by decide))), h.o3.kept hg (.inr (own_apart h.o3 h.x.ty (by decide))), ho.kept hg (.inr (own_apart ho h.x.ty (by decide))), h.a, h.b, h.d,
    h.p1.kept hg (.inr (own_apart h.p1 h.x.ty (by decide))), h.p2.kept hg (.inr (own_apart h.p2 h.x.ty (by decide))), h.g.grown hg h.g.size (fun k hk => by injection hk with hk; omega), h.cb⟩

/-- Behind the region that takes it: the chunk lies in a block of its own. -/
def KtMid (w0 : World) (C : Nat) (v0 v1 v2 vp vq : Value) (xs ys zs l1 l2 l3 : List ByteArray) (p q : List (Option Nat)) (i j k : Nat) (cs : List (Ck ByteArray)) (v : Value) (w : World) : Prop :=
  ∃ (X : Nat) (A1 A2 A3 : Option Addr) (n1 n2 n3 c1 c2 c3 : Nat) (v8 : Value), v = .pointer (some ⟨X, 0, none⟩) ∧ w0.heap.size ≤ X ∧ Bt w0 w C X v0 v1 v2 vp vq v8 (.slice A1 n1 c1) (.slice A2 n2 c2) (.slice A3 n3 c3) (.slice none 0 0) xs ys zs p q i j k cs (ck0 l1 l2 l3)

/-- What take answers here, the chunk's block not laid yet. -/
def Kt1 (w0 : World) (C : Nat) (v0 v1 v2 vp vq v8 : Value) (xs ys zs l1 l2 l3 : List ByteArray) (p q : List (Option Nat)) (i j k : Nat) (cs : List (Ck ByteArray)) (e : Ending) (w : World) : Prop :=
  ∃ (A1 A2 A3 : Option Addr) (n1 n2 n3 c1 c2 c3 : Nat), e = .returned (.agg #[.slice A1 n1 c1, .slice A2 n2 c2, .slice A3 n3 c3, .bool false, .slice none 0 0]) ∧ Tn w0 w C v0 v1 v2 vp vq v8 (.slice A1 n1 c1) (.slice A2 n2 c2) (.slice A3 n3 c3) xs ys zs l1 l2 l3 p q i j k cs
/-- Or laid ahead of it. -/
def Kt2 (w0 : World) (C X : Nat) (v0 v1 v2 vp vq v8 : Value) (xs ys zs l1 l2 l3 : List ByteArray) (p q : List (Option Nat)) (i j k : Nat) (cs : List (Ck ByteArray)) (e : Ending) (w : World) : Prop :=
  ∃ (A1 A2 A3 : Option Addr) (n1 n2 n3 c1 c2 c3 : Nat), e = .returned (.agg #[.slice A1 n1 c1, .slice A2 n2 c2, .slice A3 n3 c3, .bool false, .slice none 0 0]) ∧ Tn w0 w C v0 v1 v2 vp vq v8 (.slice A1 n1 c1) (.slice A2 n2 c2) (.slice A3 n3 c3) xs ys zs l1 l2 l3 p q i j k cs ∧
    Five w X (.slice none 0 0) (.slice none 0 0) (.slice none 0 0) (.bool false) (.slice none 0 0) ∧ v8.ownBlock ≠ some X ∧ w0.heap.size ≤ X

variable {n c m d' r f s : Nat} {A B D : Option Addr}
theorem kt_call1 (h : Cs w0 w C (.slice A n c) (.slice B m d') (.slice D r f) vp vq xs ys zs p q i j k cs) (hv : Cutr w C (.slice A n c) (.slice B m d') (.slice D r f) vp vq (.int .i64 (i : Int)) (.int .i64 (j : Int)) (.int .i64 (k : Int)) v8) (ho : OutR w w0.heap.size v8 cs)
    (hn : n ≤ 256) (hm : m ≤ 256) (hr : r ≤ 256) (hi : i + s ≤ n) (hj : j + s ≤ m) (hk : k + s ≤ r) :
    Calls Tryz.prog 128 #[.pointer (some ⟨C, 0, none⟩), .int .i64 ((i : Int) + (s : Int)), .int .i64 ((j : Int) + (s : Int)), .int .i64 ((k : Int) + (s : Int))] w (Kt1 w0 C (.slice A n c) (.slice B m d') (.slice D r f) vp vq v8 xs ys zs (cutL2 xs i (i + s)) (cutL2 ys j (j + s)) (cutL2 zs k (k + s)) p q (i + s) (j + s) (k + s) cs) := by
  have T := take_any w C _ _ _ _ _ _ i j k (i + s) (j + s) (k + s) _ _ _ _ _ v8 xs ys zs hv (h.a.below h.g) (h.b.below h.g) (h.d.below h.g) (by omega) (by omega) (by omega) hi hj hk (by omega) (by omega) (by omega)
  rw [show ((i + s : Nat) : Int) = (i : Int) + (s : Int) from by omega, show ((j + s : Nat) : Int) = (j : Int) + (s : Int) from by omega, show ((k + s : Nat) : Int) = (k : Int) + (s : Int) from by omega] at T
  refine T.mono ?_
  rintro e w1 ⟨A1, A2, A3, m1, m2, m3, c1, c2, c3, rfl, o1, o2, o3, hq, hg⟩
  exact ⟨A1, A2, A3, m1, m2, m3, c1, c2, c3, rfl, tn_of h hv ho o1 o2 o3 hq hg⟩

theorem kt_call2 (h : Cs w0 w C (.slice A n c) (.slice B m d') (.slice D r f) vp vq xs ys zs p q i j k cs) (hv : Cutr w C (.slice A n c) (.slice B m d') (.slice D r f) vp vq (.int .i64 (i : Int)) (.int .i64 (j : Int)) (.int .i64 (k : Int)) v8) (ho : OutR w w0.heap.size v8 cs)
    (hn : n ≤ 256) (hm : m ≤ 256) (hr : r ≤ 256) (hi : i + s ≤ n) (hj : j + s ≤ m) (hk : k + s ≤ r) :
    Calls Tryz.prog 128 #[.pointer (some ⟨C, 0, none⟩), .int .i64 ((i : Int) + (s : Int)), .int .i64 ((j : Int) + (s : Int)), .int .i64 ((k : Int) + (s : Int))] (w.alloc (.cells #[.slice none 0 0, .slice none 0 0, .slice none 0 0, .bool false, .slice none 0 0] 161)).drew (Kt2 w0 C w.heap.size (.slice A n c) (.slice B m d') (.slice D r f) vp vq v8 xs ys zs (cutL2 xs i (i + s)) (cutL2 ys j (j + s)) (cutL2 zs k (k + s)) p q (i + s) (j + s) (k + s) cs) := by
  have hB := ((Below.refl w.heap.size w).alloc (Nat.le_refl _) (.cells #[.slice none 0 0, .slice none 0 0, .slice none 0 0, .bool false, .slice none 0 0] 161)).drew
  have F := (Five.new w (.slice none 0 0) (.slice none 0 0) (.slice none 0 0) (.bool false) (.slice none 0 0)).below (Below.refl _ _).drew
  have T := take_any _ C _ _ _ _ _ _ i j k (i + s) (j + s) (k + s) _ _ _ _ _ v8 xs ys zs (hv.below hB) ((h.a.below h.g).below hB) ((h.b.below h.g).below hB) ((h.d.below h.g).below hB) (by omega) (by omega) (by omega) hi hj hk (by omega) (by omega) (by omega)
  rw [show ((i + s : Nat) : Int) = (i : Int) + (s : Int) from by omega, show ((j + s : Nat) : Int) = (j : Int) + (s : Int) from by omega, show ((k + s : Nat) : Int) = (k : Int) + (s : Int) from by omega] at T
  refine T.mono ?_
  rintro e w1 ⟨A1, A2, A3, m1, m2, m3, c1, c2, c3, rfl, o1, o2, o3, hq, hg⟩
  refine ⟨A1, A2, A3, m1, m2, m3, c1, c2, c3, rfl, tn_of (h.below hB) (hv.below hB) (ho.below hB) o1 o2 o3 hq hg, F.apart hg (by have := hv.lt; omega), fun hc => ?_, h.g.size⟩
  obtain ⟨vals, g1, _⟩ := ho
  have := (g1.lt _ hc).2
  omega

theorem kt_late {A1 A2 A3 : Option Addr} {n1 n2 n3 c1 c2 c3 : Nat} (t : Tn w0 w C v0 v1 v2 vp vq v8 (.slice A1 n1 c1) (.slice A2 n2 c2) (.slice A3 n3 c3) xs ys zs l1 l2 l3 p q i j k cs) :
    KtMid w0 C v0 v1 v2 vp vq xs ys zs l1 l2 l3 p q i j k cs (.pointer (some ⟨w.heap.size, 0, none⟩)) (w.alloc (.cells #[.slice A1 n1 c1, .slice A2 n2 c2, .slice A3 n3 c3, .bool false, .slice none 0 0] 161)) :=
  ⟨_, _, _, _, _, _, _, _, _, _, _, rfl, t.g.size, t.lay⟩
theorem kt_early {A1 A2 A3 : Option Addr} {n1 n2 n3 c1 c2 c3 : Nat} (t : Tn w0 w C v0 v1 v2 vp vq v8 (.slice A1 n1 c1) (.slice A2 n2 c2) (.slice A3 n3 c3) xs ys zs l1 l2 l3 p q i j k cs) (hx : Five w X (.slice none 0 0) (.slice none 0 0) (.slice none 0 0) (.bool false) (.slice none 0 0)) (nx : v8.ownBlock ≠ some X) (hX : w0.heap.size ≤ X) :
    KtMid w0 C v0 v1 v2 vp vq xs ys zs l1 l2 l3 p q i j k cs (.pointer (some ⟨X, 0, none⟩)) (((((w.setCell ⟨X, 0, none⟩ (.slice A1 n1 c1)).setCell ⟨X, 1, none⟩ (.slice A2 n2 c2)).setCell ⟨X, 2, none⟩ (.slice A3 n3 c3)).setCell ⟨X, 3, none⟩ (.bool false)).setCell ⟨X, 4, none⟩ (.slice none 0 0)) :=
  ⟨_, _, _, _, _, _, _, _, _, _, _, rfl, hX, t.fill hx nx hX⟩
end

end Go.Proofs.YtapcnmnnichamaaGreatDoor.Mg
