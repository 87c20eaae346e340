/-
  kept: the row of kept lines that begins here: how far it goes.
  Chunks: the three texts, piece by piece.
  Text, the plain part: what the pieces are as one text.
  The contract of Text.
-/
import Derived.Test.YtapcnmnnichamaaGreatDoorUX
import Derived.Deep.AppendLies
import Derived.Deep.RegionLaw
import Derived.Deep.RegionHeld3
import Derived.Deep.DeepCutAuto
import Derived.Deep.CutBlock
import Derived.BigQuiet
import Derived.IntWalk
import Derived.Deep.DrawnRows
import Derived.Test.YtapcnmnnichamaaGreatDoorVM
import Derived.Deep.LoopGhost
import Derived.Outline
import Derived.Shelf.Strings.BuilderK

namespace Go.Proofs.YtapcnmnnichamaaGreatDoor.Mg
open Go.RowKit

theorem rn_fix (k : Nat → Bool) (f n : Nat) (h : k n = false) : rn k f n = n := by
  cases f with
  | zero => rfl
  | succ f => rw [rn, if_neg (by simp [h])]
theorem rn_next (k : Nat → Bool) (f n : Nat) (h : k n = true) (hf : 0 < f) : rn k f n = rn k (f - 1) (n + 1) := by
  obtain ⟨f, rfl⟩ : ∃ g, f = g + 1 := ⟨f - 1, by omega⟩
  rw [rn, if_pos h]
  rfl

theorem keptC_yes {xs ys zs : List ByteArray} {i j k s : Nat} (h : 0 < s) : keptC xs ys zs i j k s = [⟨cutL2 xs i (i + s), cutL2 ys j (j + s), cutL2 zs k (k + s), false, cutL2 xs i (i + s)⟩] := by
  unfold keptC
  rw [if_pos h]
theorem keptC_no {xs ys zs : List ByteArray} {i j k s : Nat} (h : ¬ 0 < s) : keptC xs ys zs i j k s = [] := by
  unfold keptC
  rw [if_neg h]

theorem isK_some {p q : List (Option Nat)} {i : Nat} (h : isK p q i = true) : ∃ a b : Nat, p[i]? = some (some a) ∧ q[i]? = some (some b) := by
  unfold isK at h
  rw [Bool.and_eq_true, isSome2_iff, isSome2_iff] at h
  obtain ⟨⟨x, hx⟩, y, hy⟩ := h
  exact ⟨x, y, hx, hy⟩
theorem isRun_no {p q : List (Option Nat)} {i j k t : Nat} (h : isK p q (i + t) = false) : isRun p q i j k t = false := by
  cases hr : isRun p q i j k t with
  | false => rfl
  | true =>
    unfold isRun at hr
    rw [Bool.and_eq_true, decide_eq_true_iff, decide_eq_true_iff] at hr
    have : isK p q (i + t) = true := by unfold isK; rw [hr.1, hr.2]; rfl
    rw [this] at h
    cases h
theorem isRun_at {p q : List (Option Nat)} {i j k t a b : Nat} (hp : p[i + t]? = some (some a)) (hq : q[i + t]? = some (some b)) : isRun p q i j k t = (decide (a = j + t) && decide (b = k + t)) := by
  unfold isRun
  rw [hp, hq]
  simp

/-- The cutter's cells, as a load finds them. -/
noncomputable def cellC (C n : Nat) (w : World) : Value := (w.cell? ⟨C, n, none⟩).getD undef
theorem cellC_of {C n : Nat} {w : World} {v : Value} (h : w.cell? ⟨C, n, none⟩ = some v) : cellC C n w = v := by unfold cellC; rw [h]; rfl
def Has3 (C : Nat) (w : World) : Prop := w.cell? ⟨C, 5, none⟩ = some (cellC C 5 w) ∧ w.cell? ⟨C, 6, none⟩ = some (cellC C 6 w) ∧ w.cell? ⟨C, 7, none⟩ = some (cellC C 7 w)
theorem has3 {w : World} {C : Nat} {v5 v6 v7 : Value} (h5 : w.cell? ⟨C, 5, none⟩ = some v5) (h6 : w.cell? ⟨C, 6, none⟩ = some v6) (h7 : w.cell? ⟨C, 7, none⟩ = some v7) :
    w.cell? ⟨C, 5, none⟩ = some (cellC C 5 w) ∧ w.cell? ⟨C, 6, none⟩ = some (cellC C 6 w) ∧ w.cell? ⟨C, 7, none⟩ = some (cellC C 7 w) := by
  rw [cellC_of h5, cellC_of h6, cellC_of h7]
  exact ⟨h5, h6, h7⟩

attribute [local go_sem ↓] Go.wp_at_zero Go.wp_at_succ

set_option maxRecDepth 100000 in
set_option maxHeartbeats 8000000 in
theorem kept_any (w0 w : World) (C n c m d r f i j k : Nat) (A B D : Option Addr) (vp vq : Value) (xs ys zs : List ByteArray) (p q : List (Option Nat)) (cs : List (Ck ByteArray)) (s : Nat)
    (h : Cs w0 w C (.slice A n c) (.slice B m d) (.slice D r f) vp vq xs ys zs p q i j k cs) (lp : p.length = n) (lq : q.length = n) (hn : n ≤ 256) (hm : m ≤ 256) (hr : r ≤ 256) (hi : i ≤ n) (hj : j ≤ m) (hk : k ≤ r)
    (hs : s = rn (isRun p q i j k) (n - i) 0) (hsi : i + s ≤ n) (hsj : j + s ≤ m) (hsk : k + s ≤ r) (lcs : cs.length ≤ 2000) :
    Calls Tryz.prog 108 #[.pointer (some ⟨C, 0, none⟩)] w fun e w' => e = .returned (.tuple #[]) ∧ Cs w0 w' C (.slice A n c) (.slice B m d) (.slice D r f) vp vq xs ys zs p q (i + s) (j + s) (k + s) (cs ++ keptC xs ys zs i j k s) := by
  obtain ⟨i0, hi0, hz0, hz1, hz2⟩ := info_parts chunkInfo
  have HC := Lib.hid h
  have IK := fun w1 (m1 : Nat) (h1 : Cs w0 w1 C (.slice A n c) (.slice B m d) (.slice D r f) vp vq xs ys zs p q i j k cs) =>
    let ⟨u8, hv, _⟩ := h1.c
    isKept_any w1 C n c m1 A _ _ vp vq _ _ _ u8 p q hv h1.p1 h1.p2 lp lq
  have HIK := Lib.hid IK
  clear IK h
  have i0' : (0 : Int) ≤ (i : Int) := by omega
  have LP := Lib.hid lp
  have LQ := Lib.hid lq
  have HS := Lib.hid hs
  clear lp lq hs
  go_enter Tryz.func108, Tryz.ntmps108
  go_upto_block 0 with fail
  go_cut [2] (fun x2 wx => x2 = .int .i64 (s : Int) ∧ Cs w0 wx C (.slice A n c) (.slice B m d) (.slice D r f) vp vq xs ys zs p q i j k cs)
  case first =>
    go_wp2_with fail
    go_loopw [2] (fun s2 wr => ∃ t : Nat, t ≤ n - i ∧ s2 = .int .i64 t ∧ Hid (rn (isRun p q i j k) (n - i - t) t = s) ∧ Cs w0 wr C (.slice A n c) (.slice B m d) (.slice D r f) vp vq xs ys zs p q i j k cs) (fun s2 _ => n - i - (intOf s2).toNat)
    case atStart => exact ⟨0, Nat.zero_le _, rfl, Lib.hid HS.out.symm, HC.out⟩
    case round =>
      clear HC
      obtain ⟨t, ht, rfl, hx, hw⟩ := hrel
      have t0 : (0 : Int) ≤ (t : Int) := by omega
      have hti : i + t ≤ 256 := by omega
      go_upto_region 1 with (fail)
      go_cut [53] (fun x53 wx => x53 = .bool (isRun p q i j k t) ∧ Cs w0 wx C (.slice A n c) (.slice B m d) (.slice D r f) vp vq xs ys zs p q i j k cs)
      case first =>
        obtain ⟨v8, hc, ho⟩ := hw.c
        have t3 := hc.c3
        have t4 := hc.c4
        have t5 := hc.c5
        have t6 := hc.c6
        have t7 := hc.c7
        have HW := Lib.hid hw
        have KK : Hid (∀ nq : Nat, Calls Tryz.prog 130 #[.pointer (some ⟨C, 0, none⟩), .int .i64 ((i : Int) + (t : Int))] (wr.drewN nq) fun e w'' => e = .returned (.bool (isK p q (i + t))) ∧ ∃ m, w'' = wr.drewN m) := Lib.hid fun nq => by
          have K := HIK.out (wr.drewN nq) (i + t) (HW.out.below (below_drewN (Below.refl _ wr) nq))
          rw [show ((i + t : Nat) : Int) = (i : Int) + (t : Int) from by omega] at K
          exact K.mono fun e w'' ⟨h1, h2⟩ => ⟨h1, nq, h2.symm⟩
        clear hw hc ho
        have s5 : IntKind.i64.wrap ((i : Int) + (t : Int)) = (i : Int) + (t : Int) := IntWalk.i64_in _ (by omega)
        have s6 : IntKind.i64.wrap ((j : Int) + (t : Int)) = (j : Int) + (t : Int) := IntWalk.i64_in _ (by omega)
        have s7 : IntKind.i64.wrap ((k : Int) + (t : Int)) = (k : Int) + (t : Int) := IntWalk.i64_in _ (by omega)
        by_cases hK : isK p q (i + t) = true
        · obtain ⟨a, b, hp, hq⟩ := isK_some hK
          have HR := Lib.hid (isRun_at (j := j) (k := k) hp hq)
          rw [hK] at KK
          obtain ⟨g1, d1, rfl, k1⟩ := HW.out.p1.cell hp
          obtain ⟨g2, d2, rfl, k2⟩ := HW.out.p2.cell hq
          have l1 := (List.getElem?_eq_some_iff.1 hp).1
          have l2 := (List.getElem?_eq_some_iff.1 hq).1
          simp only [pz] at k1 k2
          have s1 : (i : Int) + (t : Int) < (p.length : Int) := by omega
          have s2 : (i : Int) + (t : Int) < (q.length : Int) := by omega
          have s3 : (0 : Int) ≤ (i : Int) + (t : Int) := by omega
          have s4 : ((i : Int) + (t : Int)).toNat = i + t := by omega
          clear hp hq hK l1 l2
          by_cases ea : a = j + t
          · have e1 : ((a : Int) == (j : Int) + (t : Int)) = true := by rw [beq_iff_eq]; omega
            by_cases eb : b = k + t
            · have e2 : ((b : Int) == (k : Int) + (t : Int)) = true := by rw [beq_iff_eq]; omega
              have HR2 : Hid (isRun p q i j k t = true) := Lib.hid (by rw [HR.out, decide_eq_true ea, decide_eq_true eb]; rfl)
              clear ea eb HR
              go_wp2_with fail
              go_quiet ((go_at_call 130; exact KK.out _))
              go_wp2_with fail
              go_meet
              exact ⟨by rw [HR2.out], HW.out.below (below_drewN (Below.refl _ wr) _)⟩
            · have e2 : ((b : Int) == (k : Int) + (t : Int)) = false := by rw [beq_eq_false_iff_ne]; omega
              have HR2 : Hid (isRun p q i j k t = false) := Lib.hid (by rw [HR.out, decide_eq_true ea, decide_eq_false eb]; rfl)
              clear ea eb HR
              go_wp2_with fail
              go_quiet ((go_at_call 130; exact KK.out _))
              go_wp2_with fail
              go_meet
              exact ⟨by rw [HR2.out], HW.out.below (below_drewN (Below.refl _ wr) _)⟩
          · have e1 : ((a : Int) == (j : Int) + (t : Int)) = false := by rw [beq_eq_false_iff_ne]; omega
            have HR2 : Hid (isRun p q i j k t = false) := Lib.hid (by rw [HR.out, decide_eq_false ea]; rfl)
            clear ea HR
            go_wp2_with fail
            go_quiet ((go_at_call 130; exact KK.out _))
            go_wp2_with fail
            go_meet
            exact ⟨by rw [HR2.out], HW.out.below (below_drewN (Below.refl _ wr) _)⟩
        · rw [Bool.not_eq_true] at hK
          have HR2 := Lib.hid (isRun_no (j := j) (k := k) hK)
          rw [hK] at KK
          clear hK
          go_wp2_with fail
          go_quiet ((go_at_call 130; exact KK.out _))
          go_wp2_with fail
          go_meet
          exact ⟨by rw [HR2.out], HW.out.below (below_drewN (Below.refl _ wr) _)⟩
      obtain ⟨rfl, hw1⟩ := hcut
      clear hw
      have HW := Lib.hid hw1
      clear hw1
      by_cases hrun : isRun p q i j k t = true
      · have hlt : t < n - i := by
          unfold isRun at hrun
          rw [Bool.and_eq_true, decide_eq_true_iff, decide_eq_true_iff] at hrun
          have := (List.getElem?_eq_some_iff.1 hrun.1).1
          have := LP.out
          omega
        have HF := Lib.hid (rn_next (isRun p q i j k) (n - i - t) t hrun (by omega))
        rw [hrun]
        clear hrun
        go_wp2_with fail
        go_roundw
        case rel => exact ⟨t + 1, by omega, by go_num, by have := HF.out.symm.trans hx.out; rw [show n - i - t - 1 = n - i - (t + 1) by omega] at this; exact Lib.hid this, HW.out⟩
        case measure => simp [intOf]; omega
      · rw [Bool.not_eq_true] at hrun
        have HF := Lib.hid ((rn_fix (isRun p q i j k) (n - i - t) t hrun).symm.trans hx.out)
        rw [hrun]
        clear hrun
        go_wp2_with fail
        go_meet
        exact ⟨by rw [HF.out], HW.out⟩
  clear HC HIK HS
  obtain ⟨rfl, hw⟩ := hcut
  by_cases hs0 : 0 < s
  · have HK := Lib.hid (keptC_yes (xs := xs) (ys := ys) (zs := zs) (i := i) (j := j) (k := k) hs0)
    have s0 : (0 : Int) < (s : Int) := by omega
    clear hs0
    go_upto_region 4 with (fail)
    go_cut [3] (fun x3 wx => KtMid w0 C (.slice A n c) (.slice B m d) (.slice D r f) vp vq xs ys zs (cutL2 xs i (i + s)) (cutL2 ys j (j + s)) (cutL2 zs k (k + s)) p q (i + s) (j + s) (k + s) cs x3 wx)
    case first =>
      obtain ⟨V8, hv, ho⟩ := hw.c
      have hD := (Below.refl wc.heap.size wc).drew
      have hvd := hv.below hD
      have T1 := Lib.hid (kt_call1 (hw.below hD) hvd (ho.below hD) hn hm hr hsi hsj hsk)
      have T2 := Lib.hid (kt_call2 hw hv ho hn hm hr hsi hsj hsk)
      have t5 := hv.c5
      have t6 := hv.c6
      have t7 := hv.c7
      have d5 := hvd.c5
      have d6 := hvd.c6
      have d7 := hvd.c7
      have e5 := cellC_of d5
      have e6 := cellC_of d6
      have e7 := cellC_of d7
      have hva := hvd.below ((Below.refl wc.drew.heap.size wc.drew).alloc (Nat.le_refl _) (.cells #[.slice none 0 0, .slice none 0 0, .slice none 0 0, .bool false, .slice none 0 0] 161))
      have a5 := hva.c5
      have a6 := hva.c6
      have a7 := hva.c7
      have s5 : IntKind.i64.wrap ((i : Int) + (s : Int)) = (i : Int) + (s : Int) := IntWalk.i64_in _ (by omega)
      have s6 : IntKind.i64.wrap ((j : Int) + (s : Int)) = (j : Int) + (s : Int) := IntWalk.i64_in _ (by omega)
      have s7 : IntKind.i64.wrap ((k : Int) + (s : Int)) = (k : Int) + (s : Int) := IntWalk.i64_in _ (by omega)
      clear hv ho hvd hva hD hw
      have hCl := World.block_lt_of_cell? wc _ t5
      simp only at hCl
      clear e5 e6 e7 d5 d6 d7 a5 a6 a7
      go_region_with (first
          | (go_at_call 128; (with_reducible refine T1.out.mono ?_); rintro e w1 ⟨A1, A2, A3, n1, n2, n3, c1, c2, c3, rfl, TN⟩)
          | (go_at_call 128; (with_reducible refine T2.out.mono ?_); rintro e w1 ⟨A1, A2, A3, n1, n2, n3, c1, c2, c3, rfl, TN, F3, nx, hX⟩; have f0 := F3.c0; have f1 := F3.c1; have f2 := F3.c2; have f3 := F3.c3; have f4 := F3.c4; have y0 := F3.z 0; have y1 := F3.z 1; have y2 := F3.z 2; have y3 := F3.z 3; have y4 := F3.z 4; have fl := F3.lt))
      all_goals (go_wp2_with fail; go_meet)
      all_goals (with_reducible first | exact kt_late TN | exact kt_early TN F3 nx hX)
    clear hw
    obtain ⟨X, A1, A2, A3, n1, n2, n3, c1, c2, c3, V8, rfl, hX, bt⟩ := hcut
    have hl1 : (cutL2 xs i (i + s)).length ≤ 1000000 := by unfold cutL2; rw [List.length_take]; omega
    generalize cutL2 xs i (i + s) = l1 at *
    generalize cutL2 ys j (j + s) = l2 at *
    generalize cutL2 zs k (k + s) = l3 at *
    have f0 := bt.x.c0
    have CL := Lib.hid (clone_any wc _ l1 (Strs.of_own bt.o1 rfl) hl1)
    have HB := Lib.hid bt
    clear bt
    go_wp2_with fail
    refine CL.out.mono ?_
    rintro e w3 ⟨v, rfl, o, hb⟩
    have b1 := HB.out.below hb
    have o4 := own_le o HB.out.g.size
    have b2 := b1.out hX o4
    obtain ⟨A4, m4, c4, rfl⟩ := own_form o4
    have g4 := b1.x.c4
    have y4 := b1.x.z 4
    have B2 := Lib.hid b2
    clear b1 b2 o o4 hb HB CL f0
    go_upto_region 6 with (fail)
    clear g4 y4
    generalize w3.setCell ⟨X, 4, none⟩ (.slice A4 m4 c4) = w2 at *
    have bt := B2.out
    have t8 := bt.c.c8
    have z8 := bt.c.z 8
    have f0 := bt.x.c0
    have f1 := bt.x.c1
    have f2 := bt.x.c2
    have f3 := bt.x.c3
    have f4 := bt.x.c4
    obtain ⟨vals, hvals, hck⟩ := bt.o
    have xl := bt.x.lt
    have cl := bt.c.lt
    have hXC : X ≠ C := bt.x.ty.ne bt.c.ty (by decide)
    have hCX : C ≠ X := Ne.symm hXC
    have hCK := Lib.hid hck
    have hbase := (Nat.le_trans bt.g.size (by simp) : w0.heap.size ≤ ((w2.alloc (.cells #[.slice A1 n1 c1, .slice A2 n2 c2, .slice A3 n3 c3, .bool false, .slice A4 m4 c4] 161)).drew).heap.size)
    clear bt hck
    go_region_law
      ((refine step_append_lies _ (by rfl) _ _ _ (by rfl) w0.heap.size 161 i0 _ 5 104 Tryz.underlying153 hi0 hz0 hz1 hz2 rfl (by omega) V8 cs.length vals (by rfl) ((hvals.alloc _).drew)
            ⟨w2.heap.size, 0, none⟩ 1 1 [.slice A1 n1 c1, .slice A2 n2 c2, .slice A3 n3 c3, .bool false, .slice A4 m4 c4] (by rfl) (by rfl) (World.news_of_block (cs := #[.slice A1 n1 c1, .slice A2 n2 c2, .slice A3 n3 c3, .bool false, .slice A4 m4 c4]) (t := 161) (fr := (0, 0)) (heap_alloc_new w2 _)) (by simp [Value.oneCell'])
            (by omega) (by unfold maxLen; omega) (by omega) hbase (w2.heap.size + 1) (by simp) ?_; intro gg cap w5 hown1 hgrow hat hlt; have BG := bt_grown B2.out hgrow; have kc := BG.1; have kz := BG.2.1))
    all_goals (go_wp2_with fail)
    all_goals go_end0
    all_goals (rw [HK.out]; exact ⟨rfl, bt_close B2.out hvals hCK.out hgrow hown1⟩)
  · have HK := Lib.hid (keptC_no (xs := xs) (ys := ys) (zs := zs) (i := i) (j := j) (k := k) hs0)
    obtain rfl : s = 0 := by omega
    clear hs0
    go_wp2_with fail
    go_end0
    rw [HK.out, List.append_nil]
    exact ⟨rfl, hw⟩

end Go.Proofs.YtapcnmnnichamaaGreatDoor.Mg

namespace Go.Proofs.YtapcnmnnichamaaGreatDoor.Mg
open Go.RowKit

theorem places_ed {α : Type} [DecidableEq α] (xs ys : List α) : Places (pls (ed xs ys) 0) xs ys := by
  have ho := ed_ops xs ys
  obtain ⟨h1, h2, _⟩ := ed_all xs ys
  refine ⟨by rw [pls_len _ ho, h1], fun i j hij => ?_, fun i j i' j' a b c => pls_mono _ ho _ _ _ _ _ a b c⟩
  obtain ⟨_, x, e1, e2⟩ := pls_at _ ho _ _ _ hij
  rw [h1] at e1
  rw [h2, Nat.sub_zero] at e2
  exact ⟨x, e1, e2⟩

/-- All pieces of three texts. -/
def allC (xs ys zs : List ByteArray) : List (Ck ByteArray) := chunks (pls (ed xs ys) 0) (pls (ed xs zs) 0) xs ys zs (xs.length + 1) 0 0 0

/-- The pieces come back in rows of the call's own. -/
def Chunked (w : World) (cs : List (Ck ByteArray)) (e : Ending) (w' : World) : Prop := ∃ v, e = .returned (.tuple #[v, .nilIface]) ∧ OutR w' w.heap.size v cs ∧ Below w.heap.size w w'

theorem OutR.form {w : World} {B : Nat} {v : Value} {cs : List (Ck ByteArray)} (h : OutR w B v cs) : ∃ A c, v = .slice A cs.length c := by
  obtain ⟨vals, h1, _⟩ := h
  rcases h1.2 with ⟨rfl, h0⟩ | ⟨g, cap, cur, rfl, _⟩
  · exact ⟨none, 0, by rw [h0]⟩
  · exact ⟨_, _, rfl⟩

theorem Cs.drewN {w0 w : World} {C : Nat} {v0 v1 v2 vp vq : Value} {xs ys zs : List ByteArray} {p q : List (Option Nat)} {i j k : Nat} {cs : List (Ck ByteArray)} (h : Cs w0 w C v0 v1 v2 vp vq xs ys zs p q i j k cs) (n : Nat) : Cs w0 (w.drewN n) C v0 v1 v2 vp vq xs ys zs p q i j k cs := h.below (below_drewN (Below.refl _ w) n)

theorem cs_start {w w1 : World} {v0 v1 v2 vp vq : Value} {xs ys zs : List ByteArray} {p q : List (Option Nat)} (hb : Below w.heap.size w w1) (h0 : Strs w v0 xs) (h1 : Strs w v1 ys) (h2 : Strs w v2 zs) (hp : Pl w1 vp p) (hq : Pl w1 vq q) :
    Cs w (w1.alloc (.cells #[v0, v1, v2, vp, vq, .int .i64 0, .int .i64 0, .int .i64 0, .slice none 0 0] 190)) w1.heap.size v0 v1 v2 vp vq xs ys zs p q 0 0 0 [] := by
  have hB := (Below.refl w1.heap.size w1).alloc (Nat.le_refl _) (.cells #[v0, v1, v2, vp, vq, .int .i64 0, .int .i64 0, .int .i64 0, .slice none 0 0] 190)
  have hh := heap_alloc_new w1 (.cells #[v0, v1, v2, vp, vq, .int .i64 0, .int .i64 0, .int .i64 0, .slice none 0 0] 190)
  have cc := fun k => cell_of_row _ w1.heap.size k _ 190 (0, 0) hh
  exact ⟨⟨.slice none 0 0, ⟨cc 0, cc 1, cc 2, cc 3, cc 4, cc 5, cc 6, cc 7, cc 8, fun k => by unfold World.frozen?; rw [hh]; rfl, ⟨_, hh⟩⟩, ⟨[], World.ownsRow_nil _ _ _ _, rfl⟩⟩, h0, h1, h2, hp.below hB, hq.below hB, hb.trans (hB.mono hb.size), hb.size⟩

set_option maxRecDepth 100000 in
set_option maxHeartbeats 4000000 in
theorem chunks_any (w : World) (v0 v1 v2 : Value) (xs ys zs : List ByteArray) (h0 : Strs w v0 xs) (h1 : Strs w v1 ys) (h2 : Strs w v2 zs) (hx : ∀ s ∈ xs, s.size ≤ maxLen) (hy : ∀ s ∈ ys, s.size ≤ maxLen) (hz : ∀ s ∈ zs, s.size ≤ maxLen)
    (lx : xs.length ≤ 256) (ly : ys.length ≤ 256) (lz : zs.length ≤ 256) : Calls Tryz.prog 76 #[v0, v1, v2] w (Chunked w (allC xs ys zs)) := by
  obtain ⟨A, n, c, rfl⟩ := h0.form
  obtain ⟨B, m, d, rfl⟩ := h1.form
  obtain ⟨D, r, f, rfl⟩ := h2.form
  obtain rfl := h0.len.1
  obtain rfl := h1.len.1
  obtain rfl := h2.len.1
  have L1 := Lib.hid (lines_good w _ _ xs ys h0 h1 hx hy lx ly)
  have L2 := Lib.hid fun w1 (hb : Below w.heap.size w w1) => lines_good w1 _ _ xs zs (h0.below hb) (h2.below hb) hx hz lx lz
  have le1 := ed_len xs ys
  have le2 := ed_len xs zs
  have HO1 := Lib.hid (ed_ops xs ys)
  have HO2 := Lib.hid (ed_ops xs zs)
  have PP := Lib.hid (places_ed xs ys)
  have QQ := Lib.hid (places_ed xs zs)
  have H0 := Lib.hid h0
  have H1 := Lib.hid h1
  have H2 := Lib.hid h2
  have HA : Hid (allC xs ys zs = chunks (pls (ed xs ys) 0) (pls (ed xs zs) 0) xs ys zs (xs.length + 1) 0 0 0) := Lib.hid rfl
  clear h0 h1 h2 hx hy hz
  generalize ed xs ys = e1 at *
  generalize ed xs zs = e2 at *
  go_enter Tryz.func76, Tryz.ntmps76
  go_wp2_with fail
  refine L1.out.mono ?_
  rintro e w1 ⟨vE, rfl, o1, b1⟩
  clear L1
  go_wp2_with fail
  refine (L2.out w1 b1).mono ?_
  rintro e w2 ⟨vF, rfl, o2, d2⟩
  have b2 := b1.trans (d2.mono b1.size)
  have o1' := own2_keep o1 d2
  clear L2 o1 d2 b1
  have P1 := Lib.hid (places_any w2 _ vE e1 o1' (by omega) HO1.out)
  clear o1'
  go_wp2_with fail
  refine P1.out.mono ?_
  rintro e w3 ⟨vp, rfl, o3, d3⟩
  obtain ⟨Ap, np, cp, rfl⟩ := own_form o3
  have b3 := b2.trans (d3.mono b2.size)
  have P2 := Lib.hid (places_any w3 _ vF e2 (own2_keep o2 d3) (by omega) HO2.out)
  clear P1 o2 d3 b2
  go_wp2_with fail
  refine P2.out.mono ?_
  rintro e w4 ⟨vq, rfl, o4, d4⟩
  obtain ⟨Aq, nq, cq, rfl⟩ := own_form o4
  have b4 := b3.trans (d4.mono b3.size)
  have S0 := Lib.hid (cs_start b4 H0.out H1.out H2.out (own_le (own_keep o3 d4) (Nat.zero_le _) : Pl w4 (.slice Ap np cp) (pls e1 0)) (own_le o4 (Nat.zero_le _) : Pl w4 (.slice Aq nq cq) (pls e2 0)))
  clear P2 o3 d4 b3 o4 b4
  go_wp2_with fail
  generalize hC : w4.heap.size = C at *
  generalize (w4.alloc (.cells #[.slice A xs.length c, .slice B ys.length d, .slice D zs.length f, .slice Ap np cp, .slice Aq nq cq, .int .i64 0, .int .i64 0, .int .i64 0, .slice none 0 0] 190)) = W at *
  clear hC
  generalize Value.slice Ap np cp = vp at *
  generalize Value.slice Aq nq cq = vq at *
  generalize pls e1 0 = p at *
  generalize pls e2 0 = q at *
  have lp := Lib.hid PP.out.len
  have lq := Lib.hid QQ.out.len
  go_loopg [38] (xs.length + 1) (fun g _ wr => ∃ (i j k : Nat) (cs : List (Ck ByteArray)), Cs w wr C (.slice A xs.length c) (.slice B ys.length d) (.slice D zs.length f) vp vq xs ys zs p q i j k cs ∧ i ≤ xs.length ∧ Beh p ys i j ∧ Beh q zs i k ∧ Hid (xs.length < g + i ∨ (i = xs.length ∧ j = ys.length ∧ k = zs.length)) ∧ cs.length + 2 * g ≤ 2 * (xs.length + 1) ∧ Hid (allC xs ys zs = cs ++ chunks p q xs ys zs g i j k))
  case atStart => exact ⟨0, 0, 0, [], S0.out, Nat.zero_le _, Beh.zero _ _, Beh.zero _ _, Lib.hid (.inl (by omega)), by simp, Lib.hid (by rw [HA.out]; rfl)⟩
  case round =>
    clear S0 HA
    obtain ⟨i, j, k, cs, hw, hi, hp, hq, hf, hcs, hA⟩ := hrel
    obtain ⟨v8, hc, ho⟩ := hw.c
    have E := Lib.hid (ended_any wr C _ _ _ _ _ _ i j k _ _ _ _ _ v8 hc)
    by_cases he : i = xs.length ∧ j = ys.length ∧ k = zs.length
    · rw [decide_eq_true he] at E
      have HE := Lib.hid (chunks_end p q xs ys zs gk i j k he)
      have HW := Lib.hid hw
      obtain ⟨A8, c8, rfl⟩ := ho.form
      have HO := Lib.hid ho
      have t8 := hc.c8
      clear hw hc ho hp hq hf he
      go_wp2_with fail
      refine E.out.mono ?_
      rintro e w5 ⟨nq, rfl, rfl⟩
      go_wp2_with fail
      go_ret2
      exact ⟨_, rfl, by rw [hA.out, HE.out, List.append_nil]; exact HO.out.below (below_drewN (Below.refl _ wr) nq), below_drewN HW.out.g nq⟩
    · rw [decide_eq_false he] at E
      obtain ⟨n, j1, k1, m, s, hn, hj1, hk1, hm⟩ := step_any p q xs ys zs lp.out lq.out i j k hi
      have hg1 : 1 ≤ gk := by
        rcases hf.out with h | h
        · omega
        · exact absurd h he
      obtain ⟨g, rfl⟩ : ∃ g, gk = g + 1 := ⟨gk - 1, by omega⟩
      have HS := Lib.hid (chunks_step p q xs ys zs g i j k n j1 k1 m hn hj1 hk1 hm he)
      obtain ⟨p1, p2, hp'⟩ := hp.step PP.out s
      obtain ⟨q1, q2, hq'⟩ := hq.step QQ.out s.turn
      have hnn : n ≤ xs.length := s.nb
      have hf' : Hid (xs.length < g + (n + m) ∨ (n + m = xs.length ∧ j1 + m = ys.length ∧ k1 + m = zs.length)) := Lib.hid (by
        by_cases hlt : n < xs.length
        · have := s.pos hlt
          have := s.le
          rcases hf.out with h | h
          · left; omega
          · exact absurd h he
        · obtain ⟨a1, a2, a3⟩ := s.fin (by omega)
          right; omega)
      have NK := Lib.hid fun nq => nextKept_any (wr.drewN nq) C xs.length c i A _ _ vp vq _ _ v8 p q (hc.below (below_drewN (Below.refl _ wr) nq)) (hw.drewN nq).p1 (hw.drewN nq).p2 lp.out lq.out (by omega) hi
      rw [← hn] at NK
      have BT := Lib.hid fun nq => between_any w (wr.drewN nq) C xs.length c ys.length d zs.length f i j k n j1 k1 A B D vp vq xs ys zs p q cs (hw.drewN nq) lp.out lq.out lx ly lz s.le p1 q1 hnn (by omega) (by omega) s.yes (fun h => ⟨(s.fin h).1, (s.fin h).2.1⟩) (by omega)
      have hfl : (firstC xs ys zs i j k n j1 k1).length ≤ 1 := by unfold firstC; split <;> simp
      have hkl : (keptC xs ys zs n j1 k1 m).length ≤ 1 := by unfold keptC; split <;> simp
      have KT := Lib.hid fun w6 h => kept_any w w6 C xs.length c ys.length d zs.length f n j1 k1 A B D vp vq xs ys zs p q (cs ++ firstC xs ys zs i j k n j1 k1) m h lp.out lq.out lx ly lz hnn (by omega) (by omega) hm s.nm p2 q2 (by rw [List.length_append]; omega)
      have hnm := s.nm
      have hA' : Hid (allC xs ys zs = ((cs ++ firstC xs ys zs i j k n j1 k1) ++ keptC xs ys zs n j1 k1 m) ++ chunks p q xs ys zs g (n + m) (j1 + m) (k1 + m)) := Lib.hid (by rw [hA.out, HS.out, List.append_assoc, List.append_assoc])
      have hl' : ((cs ++ firstC xs ys zs i j k n j1 k1) ++ keptC xs ys zs n j1 k1 m).length + 2 * g ≤ 2 * (xs.length + 1) := by rw [List.length_append, List.length_append]; omega
      have HP' := Lib.hid hp'
      have HQ' := Lib.hid hq'
      clear hw hc ho hp hq hf he hA HS s hn hj1 hk1 hm hfl hkl hp' hq' p1 p2 q1 q2 hcs hi
      generalize cs ++ firstC xs ys zs i j k n j1 k1 = cs1 at *
      generalize keptC xs ys zs n j1 k1 m = cs2 at *
      go_wp2_with fail
      refine E.out.mono ?_
      rintro e w5 ⟨nq, rfl, rfl⟩
      go_wp2_with fail
      refine (NK.out nq).mono ?_
      rintro e w6 ⟨rfl, rfl⟩
      go_wp2_with fail
      refine (BT.out nq).mono ?_
      rintro e w6 ⟨rfl, h6⟩
      have K6 := Lib.hid (KT.out w6 h6)
      clear h6 KT
      go_wp2_with fail
      refine K6.out.mono ?_
      rintro e w7 ⟨rfl, h7⟩
      go_wp2_with fail
      go_roundg g
      case measure => omega
      case rel => exact ⟨n + m, j1 + m, k1 + m, cs1 ++ cs2, h7, hnm, HP'.out, HQ'.out, hf', hl', hA'⟩

end Go.Proofs.YtapcnmnnichamaaGreatDoor.Mg

namespace Go.Proofs.YtapcnmnnichamaaGreatDoor.Mg
open Go.RowKit

abbrev oursB : ByteArray := { data := #[60, 60, 60, 60, 60, 60, 60, 32] }
abbrev midB : ByteArray := { data := #[61, 61, 61, 61, 61, 61, 61, 10] }
abbrev theirsB : ByteArray := { data := #[62, 62, 62, 62, 62, 62, 62, 32] }
abbrev nlB : ByteArray := { data := #[10] }

/-- What clashes, as it stands in the text. -/
abbrev markB (sa sn so st : ByteArray) : ByteArray := oursB ++ sa ++ nlB ++ so ++ midB ++ st ++ theirsB ++ sn ++ nlB
def markL (a n so st : List UInt8) : List UInt8 := oursB.data.toList ++ a ++ [10] ++ so ++ midB.data.toList ++ st ++ theirsB.data.toList ++ n ++ [10]
theorem append_data (a b : ByteArray) : (a ++ b).data.toList = a.data.toList ++ b.data.toList := by simp
theorem markB_data (sa sn so st : ByteArray) : (markB sa sn so st).data.toList = markL sa.data.toList sn.data.toList so.data.toList st.data.toList := by
  unfold markB markL
  simp only [append_data]

def txtC (a n : List UInt8) (c : Ck ByteArray) : List UInt8 := if c.clash = true then markL a n (endL (cat c.ours)) (endL (cat c.theirs)) else cat c.out
def txtAll (a n : List UInt8) (cs : List (Ck ByteArray)) : List UInt8 := cs.flatMap (txtC a n)
def clashes (cs : List (Ck ByteArray)) : Nat := (cs.filter (·.clash)).length

theorem txtAll_take {a n : List UInt8} {cs : List (Ck ByteArray)} {k : Nat} {c : Ck ByteArray} (h : cs[k]? = some c) : txtAll a n (cs.take (k + 1)) = txtAll a n (cs.take k) ++ txtC a n c := by
  unfold txtAll
  rw [List.take_add_one, h, List.flatMap_append]
  simp
theorem clashes_take {cs : List (Ck ByteArray)} {k : Nat} {c : Ck ByteArray} (h : cs[k]? = some c) : clashes (cs.take (k + 1)) = clashes (cs.take k) + if c.clash = true then 1 else 0 := by
  unfold clashes
  rw [List.take_add_one, h, List.filter_append, List.length_append]
  cases hc : c.clash <;> simp [hc]
theorem clashes_le (cs : List (Ck ByteArray)) : clashes cs ≤ cs.length := List.length_filter_le _ _

theorem flatMap_le {α β : Type} {f : α → List β} {M : Nat} : ∀ {l : List α}, (∀ x ∈ l, (f x).length ≤ M) → (l.flatMap f).length ≤ l.length * M
  | [], _ => by simp
  | x :: l, h => by
    have h1 := h x (List.mem_cons_self ..)
    have h2 := flatMap_le (f := f) (M := M) (l := l) (fun y hy => h y (List.mem_cons_of_mem _ hy))
    rw [List.flatMap_cons, List.length_append, List.length_cons, Nat.add_mul]
    omega
theorem mem_flatMap_le {α β : Type} {f : α → List β} : ∀ {l : List α} {x : α}, x ∈ l → (f x).length ≤ (l.flatMap f).length
  | [], _, h => by cases h
  | y :: l, x, h => by
    rw [List.flatMap_cons, List.length_append]
    rcases List.mem_cons.1 h with rfl | h
    · omega
    · have := mem_flatMap_le (f := f) h; omega

theorem cat_append (a b : List ByteArray) : cat (a ++ b) = cat a ++ cat b := by simp [cat]
theorem cat_flatMap {α : Type} (f : α → List ByteArray) : ∀ l : List α, cat (l.flatMap f) = l.flatMap fun x => cat (f x)
  | [] => rfl
  | x :: l => by rw [List.flatMap_cons, cat_append, cat_flatMap f l, List.flatMap_cons]
theorem cat_map_mk (ls : List (List UInt8)) : cat (ls.map mk) = ls.flatten := by
  unfold cat
  rw [List.map_map]
  congr 1
  rw [show ((fun x : ByteArray => x.data.toList) ∘ mk) = id from by funext l; simp [mk]]
  simp
theorem cat_lines (l : List UInt8) : cat ((cutL l).map mk) = l := by rw [cat_map_mk, cutL_flat]
theorem mem_cat {xs : List ByteArray} {s : ByteArray} (h : s ∈ xs) : s.size ≤ (cat xs).length := by
  have := mem_flatMap_le (f := fun x : ByteArray => x.data.toList) h
  have e : xs.flatMap (fun x : ByteArray => x.data.toList) = cat xs := by simp [cat, List.flatMap_def]
  rw [e, size_data] at this
  exact this

theorem out_of (xs ys zs : List ByteArray) : ∀ c ∈ allC xs ys zs, c.out = [] ∨ c.out = c.base ∨ c.out = c.ours ∨ c.out = c.theirs := by
  refine chunks_all (places_ed xs ys) (places_ed xs zs) _ ?_ ?_
  · intro i j k n j1 k1 m _ _ _ _ _
    unfold decideC
    split
    · simp
    · split
      · simp
      · simp
  · intro x _
    simp

/-- Each piece is no longer than the texts. -/
theorem piece_le (xs ys zs : List ByteArray) {M : Nat} (h1 : (cat xs).length ≤ M) (h2 : (cat ys).length ≤ M) (h3 : (cat zs).length ≤ M) {c : Ck ByteArray} (hc : c ∈ allC xs ys zs) :
    (cat c.base).length ≤ M ∧ (cat c.ours).length ≤ M ∧ (cat c.theirs).length ≤ M ∧ (cat c.out).length ≤ M := by
  obtain ⟨p1, p2, p3⟩ := chunks_parts (places_ed xs ys) (places_ed xs zs) (xs.length + 1) 0 0 0 (.inl (by omega)) (Nat.zero_le _) (Beh.zero _ _) (Beh.zero _ _)
  rw [List.drop_zero] at p1 p2 p3
  have q1 := mem_flatMap_le (f := fun c : Ck ByteArray => cat c.base) hc
  have q2 := mem_flatMap_le (f := fun c : Ck ByteArray => cat c.ours) hc
  have q3 := mem_flatMap_le (f := fun c : Ck ByteArray => cat c.theirs) hc
  rw [← cat_flatMap] at q1 q2 q3
  unfold allC at q1 q2 q3
  rw [p1] at q1
  rw [p2] at q2
  rw [p3] at q3
  refine ⟨by omega, by omega, by omega, ?_⟩
  rcases out_of xs ys zs c hc with e | e | e | e <;> rw [e]
  · simp [cat]
  all_goals omega
theorem piece_len (xs ys zs : List ByteArray) {M : Nat} (h1 : xs.length ≤ M) (h2 : ys.length ≤ M) (h3 : zs.length ≤ M) {c : Ck ByteArray} (hc : c ∈ allC xs ys zs) :
    c.base.length ≤ M ∧ c.ours.length ≤ M ∧ c.theirs.length ≤ M ∧ c.out.length ≤ M := by
  obtain ⟨p1, p2, p3⟩ := chunks_parts (places_ed xs ys) (places_ed xs zs) (xs.length + 1) 0 0 0 (.inl (by omega)) (Nat.zero_le _) (Beh.zero _ _) (Beh.zero _ _)
  rw [List.drop_zero] at p1 p2 p3
  have q1 := mem_flatMap_le (f := fun c : Ck ByteArray => c.base) hc
  have q2 := mem_flatMap_le (f := fun c : Ck ByteArray => c.ours) hc
  have q3 := mem_flatMap_le (f := fun c : Ck ByteArray => c.theirs) hc
  unfold allC at q1 q2 q3
  rw [p1] at q1
  rw [p2] at q2
  rw [p3] at q3
  refine ⟨by omega, by omega, by omega, ?_⟩
  rcases out_of xs ys zs c hc with e | e | e | e <;> rw [e]
  · simp
  all_goals omega

theorem chunks_len (p q : List (Option Nat)) (b o t : List ByteArray) : ∀ f i j k, (chunks p q b o t f i j k).length ≤ 2 * f
  | 0, _, _, _ => by simp [chunks]
  | f + 1, i, j, k => by
    rw [chunks]
    split
    · simp
    · rw [List.length_append, List.length_append]
      have := chunks_len p q b o t f
      have h1 : ∀ i j k n j1 k1, (firstC b o t i j k n j1 k1).length ≤ 1 := fun i j k n j1 k1 => by unfold firstC; split <;> simp
      have h2 : ∀ i j k m, (keptC b o t i j k m).length ≤ 1 := fun i j k m => by unfold keptC; split <;> simp
      have a1 := h1 i j k (nx (isK p q) (b.length - i) i) (atD p (nx (isK p q) (b.length - i) i) o.length) (atD q (nx (isK p q) (b.length - i) i) t.length)
      have a2 := h2 (nx (isK p q) (b.length - i) i) (atD p (nx (isK p q) (b.length - i) i) o.length) (atD q (nx (isK p q) (b.length - i) i) t.length) (rn (isRun p q (nx (isK p q) (b.length - i) i) (atD p (nx (isK p q) (b.length - i) i) o.length) (atD q (nx (isK p q) (b.length - i) i) t.length)) (b.length - nx (isK p q) (b.length - i) i) 0)
      have a3 := this (nx (isK p q) (b.length - i) i + rn (isRun p q (nx (isK p q) (b.length - i) i) (atD p (nx (isK p q) (b.length - i) i) o.length) (atD q (nx (isK p q) (b.length - i) i) t.length)) (b.length - nx (isK p q) (b.length - i) i) 0)
        (atD p (nx (isK p q) (b.length - i) i) o.length + rn (isRun p q (nx (isK p q) (b.length - i) i) (atD p (nx (isK p q) (b.length - i) i) o.length) (atD q (nx (isK p q) (b.length - i) i) t.length)) (b.length - nx (isK p q) (b.length - i) i) 0)
        (atD q (nx (isK p q) (b.length - i) i) t.length + rn (isRun p q (nx (isK p q) (b.length - i) i) (atD p (nx (isK p q) (b.length - i) i) o.length) (atD q (nx (isK p q) (b.length - i) i) t.length)) (b.length - nx (isK p q) (b.length - i) i) 0)
      omega

theorem endL_le (l : List UInt8) : (endL l).length ≤ l.length + 1 := by unfold endL; split <;> simp
theorem txtC_le {a n : List UInt8} {c : Ck ByteArray} (ha : a.length ≤ 1000) (hn : n.length ≤ 1000) (h2 : (cat c.ours).length ≤ 20000) (h3 : (cat c.theirs).length ≤ 20000) (h4 : (cat c.out).length ≤ 20000) : (txtC a n c).length ≤ 50000 := by
  unfold txtC
  split
  · have := endL_le (cat c.ours)
    have := endL_le (cat c.theirs)
    unfold markL
    simp only [List.length_append, List.length_cons, List.length_nil]
    omega
  · omega

/-! ### A builder -/
theorem isb_below {T e : TypeId} {B b : Nat} {bs : List Value} {w w' : World} (h : Lib.IsBuilder T e B b bs w) (hb : Below w.heap.size w w') : Lib.IsBuilder T e B b bs w' := by
  have key : ∀ p, Lib.BuilderAt T e B b p bs w → Lib.BuilderAt T e B b p bs w' := by
    rintro p ⟨h1, v, h2, h3, h4⟩
    have hlt := (Array.getElem?_eq_some_iff.1 h2).1
    exact ⟨h1, v, (hb.block b hlt).trans h2, own_keep h3 hb, h4⟩
  rcases h with h | h
  · exact .inl (key _ h)
  · exact .inr (key _ h)

theorem own5_at {w : World} {base g cap n : Nat} {e : TypeId} {xs : List Value} (h : w.ownsRow base e 5 (.slice (some ⟨g, 0, none⟩) n cap) n xs) {i : Nat} {x : Value} (hi : xs[i]? = some x) : w.cell? ⟨g, i, none⟩ = some x := by
  rw [h.cellAt i (by rw [← h.1]; exact (List.getElem?_eq_some_iff.1 hi).1)]
  exact hi

theorem tx_form {w : World} {B : Nat} {v : Value} {ss : List ByteArray} (h : Tx w B v ss) : ∃ A c, v = .slice A ss.length c := by
  rcases h.2 with ⟨rfl, h0⟩ | ⟨g, cap, cur, rfl, _⟩
  · exact ⟨none, 0, by rw [h0]⟩
  · exact ⟨_, _, rfl⟩

/-- One chunk out of the row. -/
theorem OutR.at {w : World} {B : Nat} {A : Option Addr} {m cap : Nat} {cs : List (Ck ByteArray)} (h : OutR w B (.slice A m cap) cs) {k : Nat} {c : Ck ByteArray} (hc : cs[k]? = some c) :
    ∃ (g : Nat) (A1 A2 A3 A4 : Option Addr) (c1 c2 c3 c4 : Nat), A = some ⟨g, 0, none⟩ ∧ w.cell? ⟨g, k * 5, none⟩ = some (.slice A1 c.base.length c1) ∧ w.cell? ⟨g, k * 5 + 1, none⟩ = some (.slice A2 c.ours.length c2) ∧ w.cell? ⟨g, k * 5 + 2, none⟩ = some (.slice A3 c.theirs.length c3) ∧
      w.cell? ⟨g, k * 5 + 3, none⟩ = some (.bool c.clash) ∧ w.cell? ⟨g, k * 5 + 4, none⟩ = some (.slice A4 c.out.length c4) ∧ Strs w (.slice A1 c.base.length c1) c.base ∧ Strs w (.slice A2 c.ours.length c2) c.ours ∧ Strs w (.slice A3 c.theirs.length c3) c.theirs ∧ Strs w (.slice A4 c.out.length c4) c.out := by
  obtain ⟨vals, h1, h2⟩ := h
  have hlt := (List.getElem?_eq_some_iff.1 hc).1
  obtain ⟨a, b, d, e, k0, k1, k2, k3, k4, t1, t2, t3, t4⟩ := h2.at hc
  obtain ⟨A1, c1, rfl⟩ := tx_form t1
  obtain ⟨A2, c2, rfl⟩ := tx_form t2
  obtain ⟨A3, c3, rfl⟩ := tx_form t3
  obtain ⟨A4, c4, rfl⟩ := tx_form t4
  obtain ⟨g, cap', hv, _, _⟩ := World.ownsRow.form h1 (by omega)
  injection hv with e1 e2 e3
  subst e1; subst e2; subst e3
  exact ⟨g, A1, A2, A3, A4, c1, c2, c3, c4, rfl, own5_at h1 k0, own5_at h1 k1, own5_at h1 k2, own5_at h1 k3, own5_at h1 k4, Strs.of_own t1 rfl, Strs.of_own t2 rfl, Strs.of_own t3 rfl, Strs.of_own t4 rfl⟩

end Go.Proofs.YtapcnmnnichamaaGreatDoor.Mg

namespace Go.Proofs.YtapcnmnnichamaaGreatDoor.Mg
open Go.RowKit

def Texted (w : World) (l : List UInt8) (n : Nat) (e : Ending) (w' : World) : Prop := e = .returned (.tuple #[.string (mk l), .int .i64 (n : Int), .nilIface]) ∧ Below w.heap.size w w'

/-- The lines of a text, as strings. -/
abbrev lns (s : ByteArray) : List ByteArray := (cutL s.data.toList).map mk
theorem lns_cat (s : ByteArray) : cat (lns s) = s.data.toList := cat_lines _

theorem below_trans {a b c : World} (h : Below a.heap.size a b) (g : Below b.heap.size b c) : Below a.heap.size a c := h.trans (g.mono h.size)

open Go.Shelf in
theorem writeK (B b : Nat) (bs : List Value) (s : ByteArray) (w : World) (h : Lib.IsBuilderF 159 5 B b bs w) (hlen : bs.length + s.size ≤ 140737488355328) (hBw : B ≤ w.heap.size) :
    Calls Tryz.prog 78 #[.pointer (some ⟨b, 0, none⟩), .string s] w fun e w' => e = .returned (.tuple #[.int .i64 s.size, .nilIface]) ∧ (Lib.BuilderAtF 159 5 B b (.pointer (some ⟨b, 0, none⟩)) (bs ++ Lib.strCells s) w' ∧ Below B w w' ∧ Lib.OthersKept 5 (some b) w w') := Any.Builder_WriteString_k Tryz.lays166 Tryz.Builder_Extra_156 B b bs s w h hlen hBw
open Go.Shelf in
theorem stringF (B b : Nat) (l : List UInt8) (w : World) (h : Lib.IsBuilderF 159 5 B b (Lib.byteCells l) w) (hBw : B ≤ w.heap.size) :
    Calls Tryz.prog 81 #[.pointer (some ⟨b, 0, none⟩)] w fun e w' => e = .returned (.string ⟨l.toArray⟩) ∧ (Lib.IsBuilderF 159 5 B b (Lib.byteCells l) w' ∧ Below B w w') := Any.Builder_String_any_f Tryz.lays169 Tryz.Builder_Extra_169 B b l w h hBw

theorem isf_below {T e : TypeId} {B b : Nat} {bs : List Value} {w w' : World} (h : Lib.IsBuilderF T e B b bs w) (hb : Below w.heap.size w w') : Lib.IsBuilderF T e B b bs w' := by
  have key : ∀ p, Lib.BuilderAtF T e B b p bs w → Lib.BuilderAtF T e B b p bs w' := by
    rintro p ⟨h1, v, h2, h3, h4⟩
    have hlt := (Array.getElem?_eq_some_iff.1 h2).1
    refine ⟨h1, v, (hb.block b hlt).trans h2, ⟨h3.1, ?_⟩, h4⟩
    rcases h3.2 with hn | ⟨g, cap, cur, fz, hv, hbg, hg, rest⟩
    · exact .inl hn
    · exact .inr ⟨g, cap, cur, fz, hv, hbg, (hb.block g (Array.getElem?_eq_some_iff.1 hg).1).trans hg, rest⟩
  rcases h with h | h
  · exact .inl (key _ h)
  · exact .inr (key _ h)

/-- The row of a chunk, and the two cells that are read of it. -/
def Rw (X : Nat) (a1 a2 a3 a4 a5 : Value) (w : World) : Prop := w.heap[X]? = some (.cells #[a1, a2, a3, a4, a5] 161 (0, 0))
theorem Rw.two {X : Nat} {a1 a2 a3 a4 a5 : Value} {w : World} (h : Rw X a1 a2 a3 a4 a5 w) : w.cell? ⟨X, 1, none⟩ = some a2 ∧ w.cell? ⟨X, 2, none⟩ = some a3 := ⟨cell_of_row w X 1 _ 161 (0, 0) h, cell_of_row w X 2 _ 161 (0, 0) h⟩
theorem Rw.below {X : Nat} {a1 a2 a3 a4 a5 : Value} {w w' : World} (h : Rw X a1 a2 a3 a4 a5 w) (hb : Below w.heap.size w w') : Rw X a1 a2 a3 a4 a5 w' := (hb.block X (Array.getElem?_eq_some_iff.1 h).1).trans h
theorem Rw.kept {X b : Nat} {a1 a2 a3 a4 a5 : Value} {w w' : World} (h : Rw X a1 a2 a3 a4 a5 w) (hb : Lib.OthersKept 5 (some b) w w') (hne : X ≠ b) : Rw X a1 a2 a3 a4 a5 w' := hb X _ h (fun e => hne (Option.some.inj e)) (fun c fz e => by cases e)

/-- A sum of strings, its outcome by name. -/
theorem sum_namedM (a b : ByteArray) (h : a.size + b.size ≤ 9223372036854775807) : ∃ s, s = a ++ b ∧ s.size = a.size + b.size ∧ ∀ w, (Op.stringOp .add a b).run Tryz.prog w = .ok (.string s) w := ⟨_, rfl, ByteArray.size_append, fun w => run_string_add_sum w a b h⟩

attribute [-go_sem] run_string_add_if
set_option maxRecDepth 100000 in
set_option maxHeartbeats 8000000 in
theorem text_any (w : World) (sb so st sa sn : ByteArray) (h1 : sb.size ≤ 20000) (h2 : so.size ≤ 20000) (h3 : st.size ≤ 20000) (h4 : sa.size ≤ 1000) (h5 : sn.size ≤ 1000)
    (l1 : (lns sb).length ≤ 256) (l2 : (lns so).length ≤ 256) (l3 : (lns st).length ≤ 256) :
    Calls Tryz.prog 62 #[.string sb, .string so, .string st, .string sa, .string sn] w (Texted w (txtAll sa.data.toList sn.data.toList (allC (lns sb) (lns so) (lns st))) (clashes (allC (lns sb) (lns so) (lns st)))) := by
  have z1 : ∀ s ∈ lns sb, s.size ≤ maxLen := fun s hs => by have := mem_cat hs; rw [lns_cat, size_data] at this; unfold maxLen; omega
  have z2 : ∀ s ∈ lns so, s.size ≤ maxLen := fun s hs => by have := mem_cat hs; rw [lns_cat, size_data] at this; unfold maxLen; omega
  have z3 : ∀ s ∈ lns st, s.size ≤ maxLen := fun s hs => by have := mem_cat hs; rw [lns_cat, size_data] at this; unfold maxLen; omega
  have hG : Hid (∀ c ∈ allC (lns sb) (lns so) (lns st), (cat c.ours).length ≤ 20000 ∧ (cat c.theirs).length ≤ 20000 ∧ (cat c.out).length ≤ 20000 ∧ c.ours.length ≤ 256 ∧ c.theirs.length ≤ 256 ∧ c.out.length ≤ 256 ∧ (txtC sa.data.toList sn.data.toList c).length ≤ 50000) := Lib.hid fun c hc => by
    obtain ⟨_, a2, a3, a4⟩ := piece_le (lns sb) (lns so) (lns st) (M := 20000) (by rw [lns_cat, size_data]; exact h1) (by rw [lns_cat, size_data]; exact h2) (by rw [lns_cat, size_data]; exact h3) hc
    obtain ⟨_, b2, b3, b4⟩ := piece_len (lns sb) (lns so) (lns st) l1 l2 l3 hc
    exact ⟨a2, a3, a4, b2, b3, b4, txtC_le (by rw [size_data]; exact h4) (by rw [size_data]; exact h5) a2 a3 a4⟩
  have hL : (allC (lns sb) (lns so) (lns st)).length ≤ 600 := by have := chunks_len (pls (ed (lns sb) (lns so)) 0) (pls (ed (lns sb) (lns st)) 0) (lns sb) (lns so) (lns st) ((lns sb).length + 1) 0 0 0; unfold allC; omega
  have S1 := Lib.hid (split_any w sb (by omega))
  have S2 := Lib.hid fun w1 => split_any w1 so (by omega)
  have S3 := Lib.hid fun w1 => split_any w1 st (by omega)
  have CH := Lib.hid fun w1 v0 v1 v2 g0 g1 g2 => chunks_any w1 v0 v1 v2 (lns sb) (lns so) (lns st) g0 g1 g2 z1 z2 z3 l1 l2 l3
  have q1 : (cutL sb.data.toList).length = (lns sb).length := by simp
  have q2 : (cutL so.data.toList).length = (lns so).length := by simp
  have q3 : (cutL st.data.toList).length = (lns st).length := by simp
  have Q1 := Lib.hid q1
  have Q2 := Lib.hid q2
  have Q3 := Lib.hid q3
  clear z1 z2 z3 l1 l2 l3 h1 h2 h3 q1 q2 q3
  generalize allC (lns sb) (lns so) (lns st) = cs at *
  go_enter Tryz.func62, Tryz.ntmps62
  go_wp2_with fail
  refine S1.out.mono ?_
  rintro e w1 ⟨v1, rfl, o1, b1⟩
  have t1 := Strs.of_own o1 Q1.out
  go_wp2_with fail
  refine (S2.out w1).mono ?_
  rintro e w2 ⟨v2, rfl, o2, d2⟩
  have t2 := Strs.of_own o2 Q2.out
  have b2 := below_trans b1 d2
  have t1' := t1.below d2
  clear o1 o2 b1 S1 S2 t1 Q1 Q2
  go_wp2_with fail
  refine (S3.out w2).mono ?_
  rintro e w3 ⟨v3, rfl, o3, d3⟩
  have t3 := Strs.of_own o3 Q3.out
  have b3 := below_trans b2 d3
  have C3 := Lib.hid (CH.out w3 v1 v2 v3 (t1'.below d3) (t2.below d3) t3)
  clear o3 b2 S3 t1' t2 t3 d2 d3 CH Q3
  go_wp2_with fail
  refine C3.out.mono ?_
  rintro e w5 ⟨vC, rfl, o5, d5⟩
  have b5 := below_trans b3 d5
  obtain ⟨AC, cC, rfl⟩ := o5.form
  clear C3 b3 d5
  have IB := Lib.hid (Lib.IsBuilderF.of (Lib.fresh_isBuilder 159 5 w5))
  have d6 := (Below.refl w5.heap.size w5).alloc (Nat.le_refl _) (.cells #[.pointer none, .slice none 0 0] 159)
  have HO := Lib.hid o5
  have B5 := Lib.hid b5
  clear o5 b5
  go_wp2_with fail
  obtain ⟨b, hb⟩ : ∃ b, b = w5.heap.size := ⟨_, rfl⟩
  rw [← hb] at IB d6 ⊢
  have Hb := Lib.hid hb
  clear hb
  go_loopw [16, 34] (fun s16 s34 wr => ∃ k : Nat, k ≤ cs.length ∧ s34 = .int .i64 k ∧ s16 = .int .i64 (clashes (cs.take k) : Nat) ∧ Lib.IsBuilderF 159 5 b b (Lib.byteCells (txtAll sa.data.toList sn.data.toList (cs.take k))) wr ∧ Below b w5 wr) (fun _ s34 _ => cs.length - (intOf s34).toNat)
  case atStart => exact ⟨0, Nat.zero_le _, rfl, rfl, IB.out, d6⟩
  case round =>
    clear IB d6
    obtain ⟨k, hk, rfl, rfl, hI, hB⟩ := hrel
    have k0 : (0 : Int) ≤ (k : Int) := Int.natCast_nonneg _
    have hbl : b ≤ wr.heap.size := by have := Hb.out; rw [this]; rw [this] at hB; exact hB.size
    have hB5 : Below w5.heap.size w5 wr := by have := Hb.out; rw [this] at hB; exact hB
    by_cases hlt : k < cs.length
    · have k1 : (k : Int) < (cs.length : Int) := by omega
      obtain ⟨c, hc⟩ : ∃ c, cs[k]? = some c := ⟨_, List.getElem?_eq_getElem hlt⟩
      obtain ⟨g, A1, A2, A3, A4, c1, c2, c3, c4, rfl, x0, x1, x2, x3, x4, t1, t2, t3, t4⟩ := (HO.out.below hB5).at hc
      obtain ⟨m1, m2, m3, m4, m5, m6, m7⟩ := hG.out c (List.mem_of_getElem? hc)
      have HT := Lib.hid (txtAll_take (a := sa.data.toList) (n := sn.data.toList) hc)
      have HC := Lib.hid (clashes_take hc)
      have hcl := clashes_le (cs.take k)
      rw [List.length_take] at hcl
      have htl : (txtAll sa.data.toList sn.data.toList (cs.take k)).length ≤ 600 * 50000 := by
        have := flatMap_le (f := txtC sa.data.toList sn.data.toList) (M := 50000) (l := cs.take k) (fun x hx => (hG.out x (List.mem_of_mem_take hx)).2.2.2.2.2.2)
        rw [List.length_take] at this
        unfold txtAll
        have h6 : min k cs.length ≤ 600 := by omega
        exact Nat.le_trans this (Nat.mul_le_mul_right _ h6)
      have hD := (Below.refl wr.heap.size wr).alloc (Nat.le_refl _) (.cells #[.slice A1 c.base.length c1, .slice A2 c.ours.length c2, .slice A3 c.theirs.length c3, .bool c.clash, .slice A4 c.out.length c4] 161)
      cases hcc : c.clash with
      | false =>
        have HE : Hid (txtC sa.data.toList sn.data.toList c = cat c.out) := Lib.hid (by unfold txtC; rw [hcc]; rfl)
        rw [hcc] at x3 hD HC
        have J := Lib.hid (join_any _ _ c.out (t4.below hD) (by omega) (by omega))
        have HD := Lib.hid hD
        have HI := Lib.hid hI
        have HBl := Lib.hid hB
        clear hc t1 t2 t3 t4 hcc hD hI hB hB5
        generalize clashes (cs.take k) = n at *
        generalize txtAll sa.data.toList sn.data.toList (cs.take k) = T at *
        go_wp2_with fail
        refine J.out.mono ?_
        rintro e w6 ⟨rfl, d6⟩
        have hsz6 : b ≤ w6.heap.size := by have := HD.out.size; have := d6.size; omega
        have W := Lib.hid (writeK b b _ (mk (cat c.out)) w6 (isf_below (isf_below HI.out HD.out) d6) (by rw [Lib.byteCells_length, mk_size]; omega) hsz6)
        clear J
        go_wp2_with fail
        refine W.out.mono ?_
        rintro e w7 ⟨rfl, h7, d7, -⟩
        have HB7 := Lib.hid (((HBl.out.trans (HD.out.mono hbl)).trans (d6.mono (by have := HD.out.size; omega))).trans d7)
        have H7 := Lib.hid h7
        clear W d6 d7 h7
        go_wp2_with fail
        go_roundw
        case rel => exact ⟨k + 1, by omega, by go_num, by rw [HC.out]; rfl, by rw [HT.out, HE.out, Lib.byteCells_append]; exact .inr (by have := H7.out; rw [Lib.strCells_eq] at this; simpa [mk] using this), HB7.out⟩
        case measure => simp [intOf]; omega
      | true =>
        have HE : Hid (txtC sa.data.toList sn.data.toList c = markL sa.data.toList sn.data.toList (endL (cat c.ours)) (endL (cat c.theirs))) := Lib.hid (by unfold txtC; rw [hcc]; rfl)
        rw [hcc] at x3 hD HC
        have HW := Lib.hid fun w7 v h => wholeText_any w7 v c.ours h (by omega) (by omega)
        have HX := Lib.hid fun w7 v h => wholeText_any w7 v c.theirs h (by omega) (by omega)
        have hlE1 := endL_le (cat c.ours)
        have hlE2 := endL_le (cat c.theirs)
        have HD := Lib.hid hD
        have HI := Lib.hid hI
        have HBl := Lib.hid hB
        have T2 := Lib.hid (t2.below (hD.trans ((Below.refl _ _).drew.mono hD.size)))
        have T3 := Lib.hid (t3.below (hD.trans ((Below.refl _ _).drew.mono hD.size)))
        clear hc t1 t2 t3 t4 hcc hD hI hB hB5
        generalize clashes (cs.take k) = n at *
        generalize txtAll sa.data.toList sn.data.toList (cs.take k) = T at *
        generalize endL (cat c.ours) = E1 at *
        generalize endL (cat c.theirs) = E2 at *
        go_wp2_with fail
        have y1 : (mk E1).size ≤ 20001 := by rw [mk_size]; omega
        have y2 : (mk E2).size ≤ 20001 := by rw [mk_size]; omega
        have l1 : (ByteArray.mk #[60, 60, 60, 60, 60, 60, 60, 32]).size = 8 := rfl
        have l2 : (ByteArray.mk #[10]).size = 1 := rfl
        have l3 : (ByteArray.mk #[61, 61, 61, 61, 61, 61, 61, 10]).size = 8 := rfl
        have l4 : (ByteArray.mk #[62, 62, 62, 62, 62, 62, 62, 32]).size = 8 := rfl
        obtain ⟨s1, e1, n1, p1⟩ := sum_namedM ⟨#[60, 60, 60, 60, 60, 60, 60, 32]⟩ sa (by omega)
        obtain ⟨s2, e2, n2, p2⟩ := sum_namedM s1 ⟨#[10]⟩ (by omega)
        obtain ⟨s3, e3, n3, p3⟩ := sum_namedM s2 (mk E1) (by omega)
        obtain ⟨s4, e4, n4, p4⟩ := sum_namedM s3 ⟨#[61, 61, 61, 61, 61, 61, 61, 10]⟩ (by omega)
        obtain ⟨s5, e5, n5, p5⟩ := sum_namedM s4 (mk E2) (by omega)
        obtain ⟨s6, e6, n6, p6⟩ := sum_namedM s5 ⟨#[62, 62, 62, 62, 62, 62, 62, 32]⟩ (by omega)
        obtain ⟨s7, e7, n7, p7⟩ := sum_namedM s6 sn (by omega)
        obtain ⟨s8, e8, n8, p8⟩ := sum_namedM s7 ⟨#[10]⟩ (by omega)
        have eM : Hid (s8 = markB sa sn (mk E1) (mk E2)) := Lib.hid (by rw [e8, e7, e6, e5, e4, e3, e2, e1])
        clear l1 l2 l3 l4 e1 e2 e3 e4 e5 e6 e7 e8 n1 n2 n3 n4 n5 n6 n7 n8
        have R0 : Rw wr.heap.size (.slice A1 c.base.length c1) (.slice A2 c.ours.length c2) (.slice A3 c.theirs.length c3) (.bool true) (.slice A4 c.out.length c4) (wr.alloc (.cells #[.slice A1 c.base.length c1, .slice A2 c.ours.length c2, .slice A3 c.theirs.length c3, .bool true, .slice A4 c.out.length c4] 161)).drew := heap_alloc_new wr _
        have q0 := R0.two
        have hne : wr.heap.size ≠ b := by have h9 : b < wr.heap.size := HI.out.elim (·.lt) (·.lt); omega
        have W1 := Lib.hid (HW.out _ _ T2.out)
        have hbs : b ≤ (wr.alloc (.cells #[.slice A1 c.base.length c1, .slice A2 c.ours.length c2, .slice A3 c.theirs.length c3, .bool true, .slice A4 c.out.length c4] 161)).drew.heap.size := by have := HD.out.size; simp at this ⊢; omega
        have hXs : wr.heap.size < (wr.alloc (.cells #[.slice A1 c.base.length c1, .slice A2 c.ours.length c2, .slice A3 c.theirs.length c3, .bool true, .slice A4 c.out.length c4] 161)).drew.heap.size := by simp
        have HXs := Lib.hid hXs
        have hsz : (markB sa sn (mk E1) (mk E2)).size ≤ 50000 := by
          rw [← size_data, markB_data]
          unfold markL
          simp only [List.length_append, List.length_cons, List.length_nil, size_data]
          rw [mk_size, mk_size]
          omega
        have HSZ : Hid (s8.size ≤ 50000) := Lib.hid (by rw [eM.out]; exact hsz)
        clear hXs hsz
        go_region_held3 (fun w' => w'.cell? ⟨wr.heap.size, 1, none⟩ = some (.slice A2 c.ours.length c2) ∧ w'.cell? ⟨wr.heap.size, 2, none⟩ = some (.slice A3 c.theirs.length c3)) (first | exact q9 | exact q8 | exact q7 | exact q0) (first
          | (go_at_call 78; (with_reducible refine (writeK b b _ s8 w8 I8.out (by rw [Lib.byteCells_length]; have := HSZ.out; omega) hs8).mono ?_); rintro e w9 ⟨rfl, h9, d9, k9⟩; have q9 := (R8.kept k9 hne).two)
          | (go_at_call 80; (with_reducible refine (HX.out w7 _ (T3.out.below d7)).mono ?_); rintro e w8 ⟨rfl, d8⟩; have I8 := Lib.hid (isf_below I7.out d8); have hs8 := Nat.le_trans hs7 d8.size; have R8 := R7.below d8; have q8 := R8.two)
          | (go_at_call 80; (with_reducible refine W1.out.mono ?_); rintro e w7 ⟨rfl, d7⟩; have I7 := Lib.hid (isf_below (isf_below HI.out (HD.out.trans ((Below.refl _ _).drew.mono HD.out.size))) d7); have hs7 := Nat.le_trans hbs d7.size; have R7 := R0.below d7; have q7 := R7.two))
        all_goals
          have HB9 := Lib.hid ((((HBl.out.trans ((HD.out.trans ((Below.refl _ _).drew.mono HD.out.size)).mono hbl)).trans (d7.mono hbs)).trans (d8.mono hs7)).trans d9)
          have H9 := Lib.hid h9
          clear d7 d8 d9 h9 W1 I7 I8 R0 R7 R8 q0 q7 q8 q9 k9
          go_wp2_with fail
          go_roundw
          case rel => exact ⟨k + 1, by omega, by go_num, by rw [HC.out]; go_num, by rw [HT.out, HE.out, Lib.byteCells_append]; exact .inr (by have := H9.out; rw [Lib.strCells_eq, eM.out, markB_data] at this; simpa [mk] using this), HB9.out⟩
          case measure => simp [intOf]; omega
    · obtain rfl : k = cs.length := by omega
      rw [List.take_length] at hI
      have P := Lib.hid (stringF b b _ wr hI hbl)
      rw [List.take_length]
      clear hI
      go_wp2_with fail
      refine P.out.mono ?_
      rintro e w6 ⟨rfl, -, d6⟩
      go_wp2_with fail
      go_ret3
      exact ⟨rfl, B5.out.trans (((hB5.trans (by rw [← Hb.out]; exact d6)).mono B5.out.size))⟩

end Go.Proofs.YtapcnmnnichamaaGreatDoor.Mg
