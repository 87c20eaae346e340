/-
  kept: the row of kept lines that begins here: how far it goes.
-/
import Derived.Test.YtapcnmnnichamaaDoorVE
import Derived.Deep.AppendLies
import Derived.Deep.RegionLaw
import Derived.Deep.RegionHeld3
import Derived.Deep.DeepCutAuto
import Derived.Deep.CutBlock
import Derived.BigQuiet
import Derived.IntWalk
import Derived.Deep.DrawnRows

namespace Go.Proofs.YtapcnmnnichamaaDoor.Mg
open Go.RowKit

theorem rn_fix (k : Nat → Bool) (f n : Nat) (h : k n = false) : rn k f n = n := by
  cases f with
  | zero => rfl
  | succ f => rw [rn, if_neg (by simp [h])]
theorem rn_next (k : Nat → Bool) (f n : Nat) (h : k n = true) (hf : 0 < f) : rn k f n = rn k (f - 1) (n + 1) := by
  obtain ⟨f, rfl⟩ : ∃ g, f = g + 1 := ⟨f - 1, by omega⟩
  rw [rn, if_pos h]
  rfl

theorem keptC_yes {xs ys zs : List ByteArray} {i j k s : Nat} (h : 0 < s) : keptC xs ys zs i j k s = [⟨cutL2 xs i (i + s), cutL2 ys j (j + s), cutL2 zs k (k + s), false, cutL2 xs i (i + s)⟩] := by
  unfold keptC
  rw [if_pos h]
theorem keptC_no {xs ys zs : List ByteArray} {i j k s : Nat} (h : ¬ 0 < s) : keptC xs ys zs i j k s = [] := by
  unfold keptC
  rw [if_neg h]

theorem isK_some {p q : List (Option Nat)} {i : Nat} (h : isK p q i = true) : ∃ a b : Nat, p[i]? = some (some a) ∧ q[i]? = some (some b) := by
  unfold isK at h
  rw [Bool.and_eq_true, isSome2_iff, isSome2_iff] at h
  obtain ⟨⟨x, hx⟩, y, hy⟩ := h
  exact ⟨x, y, hx, hy⟩
theorem isRun_no {p q : List (Option Nat)} {i j k t : Nat} (h : isK p q (i + t) = false) : isRun p q i j k t = false := by
  cases hr : isRun p q i j k t with
  | false => rfl
  | true =>
    unfold isRun at hr
    rw [Bool.and_eq_true, decide_eq_true_iff, decide_eq_true_iff] at hr
    have : isK p q (i + t) = true := by unfold isK; rw [hr.1, hr.2]; rfl
    rw [this] at h
    cases h
theorem isRun_at {p q : List (Option Nat)} {i j k t a b : Nat} (hp : p[i + t]? = some (some a)) (hq : q[i + t]? = some (some b)) : isRun p q i j k t = (decide (a = j + t) && decide (b = k + t)) := by
  unfold isRun
  rw [hp, hq]
  simp

/-- The cutter's cells, as a load finds them. -/
noncomputable def cellC (C n : Nat) (w : World) : Value := (w.cell? ⟨C, n, none⟩).getD undef
theorem cellC_of {C n : Nat} {w : World} {v : Value} (h : w.cell? ⟨C, n, none⟩ = some v) : cellC C n w = v := by unfold cellC; rw [h]; rfl
def Has3 (C : Nat) (w : World) : Prop := w.cell? ⟨C, 5, none⟩ = some (cellC C 5 w) ∧ w.cell? ⟨C, 6, none⟩ = some (cellC C 6 w) ∧ w.cell? ⟨C, 7, none⟩ = some (cellC C 7 w)
theorem has3 {w : World} {C : Nat} {v5 v6 v7 : Value} (h5 : w.cell? ⟨C, 5, none⟩ = some v5) (h6 : w.cell? ⟨C, 6, none⟩ = some v6) (h7 : w.cell? ⟨C, 7, none⟩ = some v7) :
    w.cell? ⟨C, 5, none⟩ = some (cellC C 5 w) ∧ w.cell? ⟨C, 6, none⟩ = some (cellC C 6 w) ∧ w.cell? ⟨C, 7, none⟩ = some (cellC C 7 w) := by
  rw [cellC_of h5, cellC_of h6, cellC_of h7]
  exact ⟨h5, h6, h7⟩

attribute [local go_sem ↓] Go.wp_at_zero Go.wp_at_succ

set_option maxRecDepth 100000 in
set_option maxHeartbeats 8000000 in
theorem kept_any (w0 w : World) (C n c m d r f i j k : Nat) (A B D : Option Addr) (vp vq : Value) (xs ys zs : List ByteArray) (p q : List (Option Nat)) (cs : List (Ck ByteArray)) (s : Nat)
    (h : Cs w0 w C (.slice A n c) (.slice B m d) (.slice D r f) vp vq xs ys zs p q i j k cs) (lp : p.length = n) (lq : q.length = n) (hn : n ≤ 256) (hm : m ≤ 256) (hr : r ≤ 256) (hi : i ≤ n) (hj : j ≤ m) (hk : k ≤ r)
    (hs : s = rn (isRun p q i j k) (n - i) 0) (hsi : i + s ≤ n) (hsj : j + s ≤ m) (hsk : k + s ≤ r) (lcs : cs.length ≤ 2000) :
    Calls Tryd.prog 59 #[.pointer (some ⟨C, 0, none⟩)] w fun e w' => e = .returned (.tuple #[]) ∧ Cs w0 w' C (.slice A n c) (.slice B m d) (.slice D r f) vp vq xs ys zs p q (i + s) (j + s) (k + s) (cs ++ keptC xs ys zs i j k s) := by
  obtain ⟨i0, hi0, hz0, hz1, hz2⟩ := info_parts chunkInfo
  have HC := Lib.hid h
  have IK := fun w1 (m1 : Nat) (h1 : Cs w0 w1 C (.slice A n c) (.slice B m d) (.slice D r f) vp vq xs ys zs p q i j k cs) =>
    let ⟨u8, hv, _⟩ := h1.c
    isKept_any w1 C n c m1 A _ _ vp vq _ _ _ u8 p q hv h1.p1 h1.p2 lp lq
  have HIK := Lib.hid IK
  clear IK h
  have i0' : (0 : Int) ≤ (i : Int) := by omega
  have LP := Lib.hid lp
  have LQ := Lib.hid lq
  have HS := Lib.hid hs
  clear lp lq hs
  go_enter Tryd.func59, Tryd.ntmps59
  go_upto_block 0 with fail
  go_cut [2] (fun x2 wx => x2 = .int .i64 (s : Int) ∧ Cs w0 wx C (.slice A n c) (.slice B m d) (.slice D r f) vp vq xs ys zs p q i j k cs)
  case first =>
    go_wp2_with fail
    go_loopw [2] (fun s2 wr => ∃ t : Nat, t ≤ n - i ∧ s2 = .int .i64 t ∧ Hid (rn (isRun p q i j k) (n - i - t) t = s) ∧ Cs w0 wr C (.slice A n c) (.slice B m d) (.slice D r f) vp vq xs ys zs p q i j k cs) (fun s2 _ => n - i - (intOf s2).toNat)
    case atStart => exact ⟨0, Nat.zero_le _, rfl, Lib.hid HS.out.symm, HC.out⟩
    case round =>
      clear HC
      obtain ⟨t, ht, rfl, hx, hw⟩ := hrel
      have t0 : (0 : Int) ≤ (t : Int) := by omega
      have hti : i + t ≤ 256 := by omega
      go_upto_region 1 with (fail)
      go_cut [53] (fun x53 wx => x53 = .bool (isRun p q i j k t) ∧ Cs w0 wx C (.slice A n c) (.slice B m d) (.slice D r f) vp vq xs ys zs p q i j k cs)
      case first =>
        obtain ⟨v8, hc, ho⟩ := hw.c
        have t3 := hc.c3
        have t4 := hc.c4
        have t5 := hc.c5
        have t6 := hc.c6
        have t7 := hc.c7
        have HW := Lib.hid hw
        have KK : Hid (∀ nq : Nat, Calls Tryd.prog 76 #[.pointer (some ⟨C, 0, none⟩), .int .i64 ((i : Int) + (t : Int))] (wr.drewN nq) fun e w'' => e = .returned (.bool (isK p q (i + t))) ∧ ∃ m, w'' = wr.drewN m) := Lib.hid fun nq => by
          have K := HIK.out (wr.drewN nq) (i + t) (HW.out.below (below_drewN (Below.refl _ wr) nq))
          rw [show ((i + t : Nat) : Int) = (i : Int) + (t : Int) from by omega] at K
          exact K.mono fun e w'' ⟨h1, h2⟩ => ⟨h1, nq, h2.symm⟩
        clear hw hc ho
        have s5 : IntKind.i64.wrap ((i : Int) + (t : Int)) = (i : Int) + (t : Int) := IntWalk.i64_in _ (by omega)
        have s6 : IntKind.i64.wrap ((j : Int) + (t : Int)) = (j : Int) + (t : Int) := IntWalk.i64_in _ (by omega)
        have s7 : IntKind.i64.wrap ((k : Int) + (t : Int)) = (k : Int) + (t : Int) := IntWalk.i64_in _ (by omega)
        by_cases hK : isK p q (i + t) = true
        · obtain ⟨a, b, hp, hq⟩ := isK_some hK
          have HR := Lib.hid (isRun_at (j := j) (k := k) hp hq)
          rw [hK] at KK
          obtain ⟨g1, d1, rfl, k1⟩ := HW.out.p1.cell hp
          obtain ⟨g2, d2, rfl, k2⟩ := HW.out.p2.cell hq
          have l1 := (List.getElem?_eq_some_iff.1 hp).1
          have l2 := (List.getElem?_eq_some_iff.1 hq).1
          simp only [pz] at k1 k2
          have s1 : (i : Int) + (t : Int) < (p.length : Int) := by omega
          have s2 : (i : Int) + (t : Int) < (q.length : Int) := by omega
          have s3 : (0 : Int) ≤ (i : Int) + (t : Int) := by omega
          have s4 : ((i : Int) + (t : Int)).toNat = i + t := by omega
          clear hp hq hK l1 l2
          by_cases ea : a = j + t
          · have e1 : ((a : Int) == (j : Int) + (t : Int)) = true := by rw [beq_iff_eq]; omega
            by_cases eb : b = k + t
            · have e2 : ((b : Int) == (k : Int) + (t : Int)) = true := by rw [beq_iff_eq]; omega
              have HR2 : Hid (isRun p q i j k t = true) := Lib.hid (by rw [HR.out, decide_eq_true ea, decide_eq_true eb]; rfl)
              clear ea eb HR
              go_wp2_with fail
              go_quiet ((go_at_call 76; exact KK.out _))
              go_wp2_with fail
              go_meet
              exact ⟨by rw [HR2.out], HW.out.below (below_drewN (Below.refl _ wr) _)⟩
            · have e2 : ((b : Int) == (k : Int) + (t : Int)) = false := by rw [beq_eq_false_iff_ne]; omega
              have HR2 : Hid (isRun p q i j k t = false) := Lib.hid (by rw [HR.out, decide_eq_true ea, decide_eq_false eb]; rfl)
              clear ea eb HR
              go_wp2_with fail
              go_quiet ((go_at_call 76; exact KK.out _))
              go_wp2_with fail
              go_meet
              exact ⟨by rw [HR2.out], HW.out.below (below_drewN (Below.refl _ wr) _)⟩
          · have e1 : ((a : Int) == (j : Int) + (t : Int)) = false := by rw [beq_eq_false_iff_ne]; omega
            have HR2 : Hid (isRun p q i j k t = false) := Lib.hid (by rw [HR.out, decide_eq_false ea]; rfl)
            clear ea HR
            go_wp2_with fail
            go_quiet ((go_at_call 76; exact KK.out _))
            go_wp2_with fail
            go_meet
            exact ⟨by rw [HR2.out], HW.out.below (below_drewN (Below.refl _ wr) _)⟩
        · rw [Bool.not_eq_true] at hK
          have HR2 := Lib.hid (isRun_no (j := j) (k := k) hK)
          rw [hK] at KK
          clear hK
          go_wp2_with fail
          go_quiet ((go_at_call 76; exact KK.out _))
          go_wp2_with fail
          go_meet
          exact ⟨by rw [HR2.out], HW.out.below (below_drewN (Below.refl _ wr) _)⟩
      obtain ⟨rfl, hw1⟩ := hcut
      clear hw
      have HW := Lib.hid hw1
      clear hw1
      by_cases hrun : isRun p q i j k t = true
      · have hlt : t < n - i := by
          unfold isRun at hrun
          rw [Bool.and_eq_true, decide_eq_true_iff, decide_eq_true_iff] at hrun
          have := (List.getElem?_eq_some_iff.1 hrun.1).1
          have := LP.out
          omega
        have HF := Lib.hid (rn_next (isRun p q i j k) (n - i - t) t hrun (by omega))
        rw [hrun]
        clear hrun
        go_wp2_with fail
        go_roundw
        case rel => exact ⟨t + 1, by omega, by go_num, by have := HF.out.symm.trans hx.out; rw [show n - i - t - 1 = n - i - (t + 1) by omega] at this; exact Lib.hid this, HW.out⟩
        case measure => simp [intOf]; omega
      · rw [Bool.not_eq_true] at hrun
        have HF := Lib.hid ((rn_fix (isRun p q i j k) (n - i - t) t hrun).symm.trans hx.out)
        rw [hrun]
        clear hrun
        go_wp2_with fail
        go_meet
        exact ⟨by rw [HF.out], HW.out⟩
  clear HC HIK HS
  obtain ⟨rfl, hw⟩ := hcut
  by_cases hs0 : 0 < s
  · have HK := Lib.hid (keptC_yes (xs := xs) (ys := ys) (zs := zs) (i := i) (j := j) (k := k) hs0)
    have s0 : (0 : Int) < (s : Int) := by omega
    clear hs0
    go_upto_region 4 with (fail)
    go_cut [3] (fun x3 wx => KtMid w0 C (.slice A n c) (.slice B m d) (.slice D r f) vp vq xs ys zs (cutL2 xs i (i + s)) (cutL2 ys j (j + s)) (cutL2 zs k (k + s)) p q (i + s) (j + s) (k + s) cs x3 wx)
    case first =>
      obtain ⟨V8, hv, ho⟩ := hw.c
      have hD := (Below.refl wc.heap.size wc).drew
      have hvd := hv.below hD
      have T1 := Lib.hid (kt_call1 (hw.below hD) hvd (ho.below hD) hn hm hr hsi hsj hsk)
      have T2 := Lib.hid (kt_call2 hw hv ho hn hm hr hsi hsj hsk)
      have t5 := hv.c5
      have t6 := hv.c6
      have t7 := hv.c7
      have d5 := hvd.c5
      have d6 := hvd.c6
      have d7 := hvd.c7
      have e5 := cellC_of d5
      have e6 := cellC_of d6
      have e7 := cellC_of d7
      have hva := hvd.below ((Below.refl wc.drew.heap.size wc.drew).alloc (Nat.le_refl _) (.cells #[.slice none 0 0, .slice none 0 0, .slice none 0 0, .bool false, .slice none 0 0] 85))
      have a5 := hva.c5
      have a6 := hva.c6
      have a7 := hva.c7
      have s5 : IntKind.i64.wrap ((i : Int) + (s : Int)) = (i : Int) + (s : Int) := IntWalk.i64_in _ (by omega)
      have s6 : IntKind.i64.wrap ((j : Int) + (s : Int)) = (j : Int) + (s : Int) := IntWalk.i64_in _ (by omega)
      have s7 : IntKind.i64.wrap ((k : Int) + (s : Int)) = (k : Int) + (s : Int) := IntWalk.i64_in _ (by omega)
      clear hv ho hvd hva hD hw
      have hCl := World.block_lt_of_cell? wc _ t5
      simp only at hCl
      clear e5 e6 e7 d5 d6 d7 a5 a6 a7
      go_region_with (first
          | (go_at_call 74; (with_reducible refine T1.out.mono ?_); rintro e w1 ⟨A1, A2, A3, n1, n2, n3, c1, c2, c3, rfl, TN⟩)
          | (go_at_call 74; (with_reducible refine T2.out.mono ?_); rintro e w1 ⟨A1, A2, A3, n1, n2, n3, c1, c2, c3, rfl, TN, F3, nx, hX⟩; have f0 := F3.c0; have f1 := F3.c1; have f2 := F3.c2; have f3 := F3.c3; have f4 := F3.c4; have y0 := F3.z 0; have y1 := F3.z 1; have y2 := F3.z 2; have y3 := F3.z 3; have y4 := F3.z 4; have fl := F3.lt))
      all_goals (go_wp2_with fail; go_meet)
      all_goals (with_reducible first | exact kt_late TN | exact kt_early TN F3 nx hX)
    clear hw
    obtain ⟨X, A1, A2, A3, n1, n2, n3, c1, c2, c3, V8, rfl, hX, bt⟩ := hcut
    have hl1 : (cutL2 xs i (i + s)).length ≤ 1000000 := by unfold cutL2; rw [List.length_take]; omega
    generalize cutL2 xs i (i + s) = l1 at *
    generalize cutL2 ys j (j + s) = l2 at *
    generalize cutL2 zs k (k + s) = l3 at *
    have f0 := bt.x.c0
    have CL := Lib.hid (clone_any wc _ l1 (Strs.of_own bt.o1 rfl) hl1)
    have HB := Lib.hid bt
    clear bt
    go_wp2_with fail
    refine CL.out.mono ?_
    rintro e w3 ⟨v, rfl, o, hb⟩
    have b1 := HB.out.below hb
    have o4 := own_le o HB.out.g.size
    have b2 := b1.out hX o4
    obtain ⟨A4, m4, c4, rfl⟩ := own_form o4
    have g4 := b1.x.c4
    have y4 := b1.x.z 4
    have B2 := Lib.hid b2
    clear b1 b2 o o4 hb HB CL f0
    go_upto_region 6 with (fail)
    clear g4 y4
    generalize w3.setCell ⟨X, 4, none⟩ (.slice A4 m4 c4) = w2 at *
    have bt := B2.out
    have t8 := bt.c.c8
    have z8 := bt.c.z 8
    have f0 := bt.x.c0
    have f1 := bt.x.c1
    have f2 := bt.x.c2
    have f3 := bt.x.c3
    have f4 := bt.x.c4
    obtain ⟨vals, hvals, hck⟩ := bt.o
    have xl := bt.x.lt
    have cl := bt.c.lt
    have hXC : X ≠ C := bt.x.ty.ne bt.c.ty (by decide)
    have hCX : C ≠ X := Ne.symm hXC
    have hCK := Lib.hid hck
    have hbase := (Nat.le_trans bt.g.size (by simp) : w0.heap.size ≤ ((w2.alloc (.cells #[.slice A1 n1 c1, .slice A2 n2 c2, .slice A3 n3 c3, .bool false, .slice A4 m4 c4] 85)).drew).heap.size)
    clear bt hck
    go_region_law
      ((refine step_append_lies _ (by rfl) _ _ _ (by rfl) w0.heap.size 85 i0 _ 5 104 Tryd.underlying76 hi0 hz0 hz1 hz2 rfl (by omega) V8 cs.length vals (by rfl) ((hvals.alloc _).drew)
            ⟨w2.heap.size, 0, none⟩ 1 1 [.slice A1 n1 c1, .slice A2 n2 c2, .slice A3 n3 c3, .bool false, .slice A4 m4 c4] (by rfl) (by rfl) (World.news_of_block (cs := #[.slice A1 n1 c1, .slice A2 n2 c2, .slice A3 n3 c3, .bool false, .slice A4 m4 c4]) (t := 85) (fr := (0, 0)) (heap_alloc_new w2 _)) (by simp [Value.oneCell'])
            (by omega) (by unfold maxLen; omega) (by omega) hbase (w2.heap.size + 1) (by simp) ?_; intro gg cap w5 hown1 hgrow hat hlt; have BG := bt_grown B2.out hgrow; have kc := BG.1; have kz := BG.2.1))
    all_goals (go_wp2_with fail)
    all_goals go_end0
    all_goals (rw [HK.out]; exact ⟨rfl, bt_close B2.out hvals hCK.out hgrow hown1⟩)
  · have HK := Lib.hid (keptC_no (xs := xs) (ys := ys) (zs := zs) (i := i) (j := j) (k := k) hs0)
    obtain rfl : s = 0 := by omega
    clear hs0
    go_wp2_with fail
    go_end0
    rw [HK.out, List.append_nil]
    exact ⟨rfl, hw⟩

end Go.Proofs.YtapcnmnnichamaaDoor.Mg
