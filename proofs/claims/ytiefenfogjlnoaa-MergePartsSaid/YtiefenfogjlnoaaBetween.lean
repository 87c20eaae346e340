/-
  between: what lies ahead of the next kept line.
-/
import Derived.Test.YtiefenfogjlnoaaBt
import Derived.Test.YtiefenfogjlnoaaTake
import Derived.Deep.AppendLies
import Derived.Deep.RegionLaw
import Derived.Deep.DeepCutAuto
import Derived.Deep.CutBlock
namespace Go.Proofs.Ytiefenfogjlnoaa
open Go.RowKit

theorem firstC_yes {xs ys zs : List ByteArray} {i j k i2 j2 k2 : Nat} (h : i < i2 ∨ j < j2 ∨ k < k2) : firstC xs ys zs i j k i2 j2 k2 = [decideC (cutL2 xs i i2) (cutL2 ys j j2) (cutL2 zs k k2)] := by
  unfold firstC
  rw [if_pos h]
theorem firstC_no {xs ys zs : List ByteArray} {i j k i2 j2 k2 : Nat} (h : ¬(i < i2 ∨ j < j2 ∨ k < k2)) : firstC xs ys zs i j k i2 j2 k2 = [] := by
  unfold firstC
  rw [if_neg h]

set_option maxHeartbeats 4000000 in
theorem between_any (w0 w : World) (C n c m d r f i j k i2 j2 k2 : Nat) (A B D : Option Addr) (vp vq : Value) (xs ys zs : List ByteArray) (p q : List (Option Nat)) (cs : List (Ck ByteArray))
    (h : Cs w0 w C (.slice A n c) (.slice B m d) (.slice D r f) vp vq xs ys zs p q i j k cs) (lp : p.length = n) (lq : q.length = n) (hn : n ≤ 256) (hm : m ≤ 256) (hr : r ≤ 256)
    (hi : i ≤ i2) (hj : j ≤ j2) (hk : k ≤ k2) (ji : i2 ≤ n) (jj : j2 ≤ m) (jk : k2 ≤ r) (hy : i2 < n → p[i2]? = some (some j2) ∧ q[i2]? = some (some k2)) (hf : i2 = n → j2 = m ∧ k2 = r) (lcs : cs.length ≤ 2000) :
    Calls Try.prog 24 #[.pointer (some ⟨C, 0, none⟩), .int .i64 i2] w fun e w' => e = .returned (.tuple #[]) ∧ Cs w0 w' C (.slice A n c) (.slice B m d) (.slice D r f) vp vq xs ys zs p q i2 j2 k2 (cs ++ firstC xs ys zs i j k i2 j2 k2) := by
  obtain ⟨i0, hi0, hz0, hz1, hz2⟩ := info_parts chunkInfo
  obtain ⟨v8, hc, ho⟩ := h.c
  have t0 := hc.c0
  have t1 := hc.c1
  have t2 := hc.c2
  have t3 := hc.c3
  have t4 := hc.c4
  have HC := Lib.hid h
  have HY := Lib.hid hy
  have HF := Lib.hid hf
  have LP := Lib.hid lp
  have LQ := Lib.hid lq
  clear h hc ho hy hf lp lq
  go_enter Try.func24, Try.ntmps24
  go_wp2_with fail
  go_quiet (fail)
  go_upto_if 23 with (fail)
  have hw := HC.out.below (below_drewN (Below.refl _ w) nq)
  have t0' : (w.drewN nq).cell? ⟨C, 0, none⟩ = some (.slice A n c) := t0
  have t3' : (w.drewN nq).cell? ⟨C, 3, none⟩ = some vp := t3
  have t4' : (w.drewN nq).cell? ⟨C, 4, none⟩ = some vq := t4
  clear t0 t1 t2 t3 t4 HC
  generalize w.drewN nq = wd at *
  go_cut [4, 5] (fun x4 x5 wx => x4 = .int .i64 (j2 : Int) ∧ x5 = .int .i64 (k2 : Int) ∧ Cs w0 wx C (.slice A n c) (.slice B m d) (.slice D r f) vp vq xs ys zs p q i j k cs)
  case first =>
    by_cases hlt : i2 < n
    · have i9 : (i2 : Int) < (n : Int) := by omega
      obtain ⟨hx, hy⟩ := HY.out hlt
      obtain ⟨g1, d1, rfl, k1⟩ := hw.p1.cell hx
      obtain ⟨g2, d2, rfl, k2'⟩ := hw.p2.cell hy
      simp only [pz] at k1 k2'
      have i1 : (0 : Int) ≤ (i2 : Int) := by omega
      have i3 : (i2 : Int) < (p.length : Int) := by have := LP.out; omega
      have i4 : (i2 : Int) < (q.length : Int) := by have := LQ.out; omega
      clear hx hy
      go_wp2_with fail
      go_quiet (fail)
      go_wp2_with fail
      go_meet
      exact ⟨rfl, rfl, hw.below (below_drewN (Below.refl _ wd) _)⟩
    · obtain ⟨rfl, rfl⟩ := HF.out (by omega)
      have i9 : ¬ (i2 : Int) < (n : Int) := by omega
      go_wp2_with fail
      go_meet
      exact ⟨rfl, rfl, hw⟩
  clear hw t0' t3' t4'
  obtain ⟨rfl, rfl, hw⟩ := hcut
  obtain ⟨V8, hv, ho⟩ := hw.c
  have t5 := hv.c5
  have t6 := hv.c6
  have t7 := hv.c7
  go_upto_region 3 with (fail)
  go_cut [59] (fun x59 wx => x59 = .bool (decide (i < i2 ∨ j < j2 ∨ k < k2)) ∧ wx = wc)
  case first =>
    by_cases e1 : i < i2
    · have f1 : (i : Int) < (i2 : Int) := by omega
      have HD := Lib.hid (decide_eq_true (show i < i2 ∨ j < j2 ∨ k < k2 from .inl e1))
      clear e1
      go_wp2_with fail
      go_meet
      exact ⟨by rw [HD.out], rfl⟩
    · have f1 : ¬ (i : Int) < (i2 : Int) := by omega
      by_cases e2 : j < j2
      · have f2 : (j : Int) < (j2 : Int) := by omega
        have HD := Lib.hid (decide_eq_true (show i < i2 ∨ j < j2 ∨ k < k2 from .inr (.inl e2)))
        clear e1 e2
        go_wp2_with fail
        go_meet
        exact ⟨by rw [HD.out], rfl⟩
      · have f2 : ¬ (j : Int) < (j2 : Int) := by omega
        by_cases e3 : k < k2
        · have f3 : (k : Int) < (k2 : Int) := by omega
          have HD := Lib.hid (decide_eq_true (show i < i2 ∨ j < j2 ∨ k < k2 from .inr (.inr e3)))
          clear e1 e2 e3
          go_wp2_with fail
          go_meet
          exact ⟨by rw [HD.out], rfl⟩
        · have f3 : ¬ (k : Int) < (k2 : Int) := by omega
          have HD := Lib.hid (decide_eq_false (show ¬(i < i2 ∨ j < j2 ∨ k < k2) from fun h => h.elim e1 (fun h => h.elim e2 e3)))
          clear e1 e2 e3
          go_wp2_with fail
          go_meet
          exact ⟨by rw [HD.out], rfl⟩
  obtain ⟨rfl, hwc⟩ := hcut
  subst hwc
  clear t5 t6 t7
  by_cases hD : i < i2 ∨ j < j2 ∨ k < k2
  · have HD := Lib.hid (firstC_yes (xs := xs) (ys := ys) (zs := zs) hD)
    rw [decide_eq_true hD]
    clear hD
    have HW := Lib.hid hw
    have HV := Lib.hid hv
    have HO := Lib.hid ho
    clear hw hv ho
    go_wp2_with fail
    refine (take_any _ C _ _ _ _ _ _ i j k i2 j2 k2 _ _ _ _ _ V8 xs ys zs HV.out (HW.out.a.below HW.out.g) (HW.out.b.below HW.out.g) (HW.out.d.below HW.out.g) hi hj hk ji jj jk (by omega) (by omega) (by omega)).mono ?_
    rintro e w1 ⟨A1, A2, A3, m1, m2, m3, c1, c2, c3, rfl, o1, o2, o3, hq, hg⟩
    have O1 := Lib.hid o1
    have O2 := Lib.hid o2
    have O3 := Lib.hid o3
    have HQ := Lib.hid hq
    have HG := Lib.hid hg
    clear o1 o2 o3 hq hg
    go_wp2_with fail
    refine (decide_any _ w1.heap.size _ _ _ (cutL2 xs i i2) (cutL2 ys j j2) (cutL2 zs k k2) (Five.new _ _ _ _ _ _) ((Strs.of_own O1.out rfl).alloc _) ((Strs.of_own O2.out rfl).alloc _) ((Strs.of_own O3.out rfl).alloc _) (by unfold cutL2; rw [List.length_take]; omega) (by unfold cutL2; rw [List.length_take]; omega)).mono ?_
    rintro e w2 hd
    obtain ⟨v4, rfl, bt⟩ := bt_of HW.out HV.out HO.out O1.out O2.out O3.out HQ.out HG.out hd
    clear HW HV HO O1 O2 O3 HQ HG hd
    generalize w1.heap.size = X at *
    obtain ⟨A4, m4, c4, rfl⟩ := own_form bt.o4
    have BT := Lib.hid bt
    have t8 := bt.c.c8
    have z8 := bt.c.z 8
    have f0 := bt.x.c0
    have f1 := bt.x.c1
    have f2 := bt.x.c2
    have f3 := bt.x.c3
    have f4 := bt.x.c4
    obtain ⟨vals, hvals, hck⟩ := bt.o
    have xl := bt.x.lt
    have cl := bt.c.lt
    have hXC : X ≠ C := bt.x.ty.ne bt.c.ty (by decide)
    have hCX : C ≠ X := Ne.symm hXC
    have hCK := Lib.hid hck
    have hbase := (Nat.le_trans bt.g.size (by simp) : w0.heap.size ≤ ((w2.alloc (.cells #[.slice A1 m1 c1, .slice A2 m2 c2, .slice A3 m3 c3, .bool (decideC (cutL2 xs i i2) (cutL2 ys j j2) (cutL2 zs k k2)).clash, .slice A4 m4 c4] 34)).drew).heap.size)
    clear bt hck
    generalize hdk : decideC (cutL2 xs i i2) (cutL2 ys j j2) (cutL2 zs k k2) = dk at *
    clear hdk
    go_wp2_with fail
    go_region_law
      ((refine step_append_lies _ (by rfl) _ _ _ (by rfl) w0.heap.size 34 i0 _ 5 104 Try.underlying30 hi0 hz0 hz1 hz2 rfl (by omega) V8 cs.length vals (by rfl) ((hvals.alloc _).drew)
            ⟨w2.heap.size, 0, none⟩ 1 1 [.slice A1 m1 c1, .slice A2 m2 c2, .slice A3 m3 c3, .bool dk.clash, .slice A4 m4 c4] (by rfl) (by rfl) (World.news_of_block (cs := #[.slice A1 m1 c1, .slice A2 m2 c2, .slice A3 m3 c3, .bool dk.clash, .slice A4 m4 c4]) (t := 34) (fr := (0, 0)) (heap_alloc_new w2 _)) (by simp [Value.oneCell'])
            (by omega) (by unfold maxLen; omega) (by omega) hbase (w2.heap.size + 1) (by simp) ?_; intro gg cap w3 hown1 hgrow hat hlt; have BG := bt_grown BT.out hgrow; have kc := BG.1; have kz := BG.2.1))
    all_goals (go_wp2_with fail)
    all_goals go_end0
    all_goals (rw [HD.out]; exact ⟨rfl, bt_close BT.out hvals hCK.out hgrow hown1⟩)
  · have HD := Lib.hid (firstC_no (xs := xs) (ys := ys) (zs := zs) hD)
    rw [decide_eq_false hD]
    obtain rfl : i = i2 := by omega
    obtain rfl : j = j2 := by omega
    obtain rfl : k = k2 := by omega
    clear hD
    go_wp2_with fail
    go_end0
    rw [HD.out, List.append_nil]
    exact ⟨rfl, hw⟩

end Go.Proofs.Ytiefenfogjlnoaa
