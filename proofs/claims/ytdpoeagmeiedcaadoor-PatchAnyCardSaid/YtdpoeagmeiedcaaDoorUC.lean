/-
  rectoref11.Hunks: the marks.
  rectoref11.Turned: a hunk of its own that grows, beside a row of hunks.
  rectoref11.Turned.
-/
import Derived.Test.YtdpoeagmeiedcaaDoorUB

namespace Go.Proofs.YtdpoeagmeiedcaaDoor
open Go Go.RowKit

/-- What holds through the marks' loops. -/
def MarkI (w wr : World) (G : Nat) (l : List EdI) (a i : Nat) (m : Nat → Bool) : Prop :=
  wr.rowIs G 4 l.length (fun t => .bool (m t)) ∧ Marks l a i m ∧ Below w.heap.size w wr
theorem MarkI.put {w wr : World} {G : Nat} {l : List EdI} {a i : Nat} {m : Nat → Bool} (h : MarkI w wr G l a i m) (hG : w.heap.size ≤ G) {p : Nat} (hm : Marks l a i (setM m p)) : MarkI w (wr.setCell ⟨G, p, none⟩ (.bool true)) G l a i (setM m p) :=
  ⟨(h.1.set p (.bool true)).congr (fun t _ => by
    unfold setM
    by_cases e : t = p
    · rw [if_pos e, if_pos e]
    · rw [if_neg e, if_neg e]), hm, h.2.2.setCell (p := ⟨G, p, none⟩) hG _⟩
theorem step_run {m : Nat → Bool} {hs pre : List Hk} {h : Hk} {k i j : Nat} {e : EdI} {l : List EdI} {HS : List Hk} (hr : runF m (stepR m hs k i j e) (k + 1) (i + if isDel e then 1 else 0) (j + if isAdd e then 1 else 0) l = HS) (hmk : m k = true)
    (hE : pre ++ [h] = if k = 0 ∨ m (k - 1) = false then hs ++ [⟨(i : Int), 0, (j : Int), 0, []⟩] else hs) : runF m (pre ++ [addE h e]) (k + 1) (i + if isDel e then 1 else 0) (j + if isAdd e then 1 else 0) l = HS := by
  rw [← hr]
  unfold stepR
  rw [hmk, if_pos rfl, ← hE, putE_snoc]
theorem run_1 {m : Nat → Bool} {pre : List Hk} {h : Hk} {k i j : Nat} {s : ByteArray} {l : List EdI} {HS : List Hk} (hr : runF m (pre ++ [addE h (1, s)]) (k + 1) (i + if isDel (1, s) then 1 else 0) (j + if isAdd (1, s) then 1 else 0) l = HS) :
    runF m (pre ++ [⟨h.at_, h.del + 1, h.to_, h.add + 1, h.ls ++ [(1, s)]⟩]) (k + 1) (i + 1) (j + 1) l = HS := hr
theorem run_2 {m : Nat → Bool} {pre : List Hk} {h : Hk} {k i j : Nat} {s : ByteArray} {l : List EdI} {HS : List Hk} (hr : runF m (pre ++ [addE h (2, s)]) (k + 1) (i + if isDel (2, s) then 1 else 0) (j + if isAdd (2, s) then 1 else 0) l = HS) :
    runF m (pre ++ [⟨h.at_, h.del + 1, h.to_, h.add, h.ls ++ [(2, s)]⟩]) (k + 1) (i + 1) j l = HS := by
  have e : addE h (2, s) = ⟨h.at_, h.del + 1, h.to_, h.add, h.ls ++ [(2, s)]⟩ := by simp [addE, isDel, isAdd]
  rw [e] at hr
  exact hr
theorem run_3 {m : Nat → Bool} {pre : List Hk} {h : Hk} {k i j : Nat} {s : ByteArray} {l : List EdI} {HS : List Hk} (hr : runF m (pre ++ [addE h (3, s)]) (k + 1) (i + if isDel (3, s) then 1 else 0) (j + if isAdd (3, s) then 1 else 0) l = HS) :
    runF m (pre ++ [⟨h.at_, h.del, h.to_, h.add + 1, h.ls ++ [(3, s)]⟩]) (k + 1) i (j + 1) l = HS := by
  have e : addE h (3, s) = ⟨h.at_, h.del, h.to_, h.add + 1, h.ls ++ [(3, s)]⟩ := by simp [addE, isDel, isAdd]
  rw [e] at hr
  exact hr

set_option maxRecDepth 100000 in
set_option maxHeartbeats 8000000 in
theorem refHunks_any (w : World) (v : Value) (l : List EdI) (around : Int) (h : Reads 2 cEd w v l) (hl : l.length ≤ 500) (hops : ∀ e ∈ l, e.1 = 1 ∨ e.1 = 2 ∨ e.1 = 3) :
    Calls Tryd.prog 23 #[v, .int .i64 around] w (HunksTo 114 91 (hunksP l (min around.toNat 16)) w) := by
  obtain ⟨A, c, rfl⟩ := h.form
  have hnm : c ≤ 9223372036854775807 := by have := h.len.2.2; unfold maxLen at this; omega
  have hlc := h.len.2.1
  have HO := Lib.hid h
  have HP := Lib.hid hops
  have ha16 : min around.toNat 16 ≤ 16 := by omega
  obtain ⟨a, haa⟩ : ∃ a, a = min around.toNat 16 := ⟨_, rfl⟩
  rw [← haa] at ha16 ⊢
  obtain ⟨n, hn⟩ : ∃ n, n = l.length := ⟨_, rfl⟩
  have mk1 := fun W => run_make_row' (P := Tryd.prog) 112 4 (.bool false) 1 Tryd.underlying112 boolInfoP rfl .i64 .i64 l.length (by omega) (by omega) W
  have R0 := Lib.hid (show MarkI w (w.alloc (.cells (madeCells #[.bool false] l.length) 4)) w.heap.size l a 0 (fun _ => false) from ⟨World.rowIs_made w (.bool false) l.length 4, Marks.zero l a, (Below.refl w.heap.size w).alloc (Nat.le_refl _) _⟩)
  have HAA := Lib.hid haa
  clear h haa hops hn
  go_enter Tryd.func23, Tryd.ntmps23
  go_upto_if 16 with fail
  go_cut [1] (fun s1 wy => s1 = .int .i64 (max around 0) ∧ wy = w)
  case first =>
    by_cases h1 : around < 0
    · go_wp2_with fail
      go_meet
      exact ⟨by rw [show max around 0 = 0 by omega], rfl⟩
    · go_wp2_with fail
      go_meet
      exact ⟨by rw [show max around 0 = around by omega], rfl⟩
  case rest =>
    obtain ⟨rfl, hw1⟩ := hcut
    rw [hw1]
    clear hw1 wc
    obtain ⟨r, hr⟩ : ∃ r, r = max around 0 := ⟨_, rfl⟩
    rw [← hr]
    go_upto_if 18 with fail
    go_cut [1] (fun s1 wy => s1 = .int .i64 (a : Int) ∧ wy = w)
    case first =>
      by_cases h2 : r > 16
      · have h3 : (a : Int) = 16 := by have := HAA.out; omega
        go_wp2_with fail
        go_meet
        exact ⟨by rw [h3], rfl⟩
      · have h3 : (a : Int) = r := by have := HAA.out; omega
        go_wp2_with fail
        go_meet
        exact ⟨by rw [h3, hr], rfl⟩
    case rest =>
      obtain ⟨rfl, hw1⟩ := hcut
      rw [hw1]
      clear hw1 wc hr r
      go_wp2_with fail
      obtain ⟨G, hG⟩ : ∃ G, G = w.heap.size := ⟨_, rfl⟩
      rw [← hG] at R0 ⊢
      have HGW := Lib.hid (show w.heap.size ≤ G by omega)
      have HAA2 := Lib.hid ha16
      clear hG mk1 ha16
      go_loopw [6] (fun s6 wr => ∃ (i : Nat) (m : Nat → Bool), i ≤ l.length ∧ s6 = .int .i64 i ∧ Hid (MarkI w wr G l a i m)) (fun s6 _ => l.length - (intOf s6).toNat)
      case atStart => exact ⟨0, _, Nat.zero_le _, rfl, R0⟩
      case round =>
        clear R0
        obtain ⟨i, m, hil, rfl, hI⟩ := hrel
        have i0 : (0 : Int) ≤ (i : Int) := Int.natCast_nonneg _
        by_cases hlt : i < l.length
        · have i1 : (i : Int) < (l.length : Int) := by omega
          obtain ⟨⟨o, sx⟩, hx⟩ : ∃ x, l[i]? = some x := ⟨_, List.getElem?_eq_getElem hlt⟩
          obtain ⟨ad, rfl, c0, c1⟩ := Eds.at_ (HO.out.below hI.out.2.2) hx
          have HX := Lib.hid hx
          clear hx
          by_cases ho : o = 1
          · subst ho
            have HK := Lib.hid (show MarkI w wr G l a (i + 1) m from ⟨hI.out.1, hI.out.2.1.keep HX.out rfl, hI.out.2.2⟩)
            go_wp2
            go_roundw
            case rel => exact ⟨i + 1, m, by omega, by go_num, HK⟩
            case measure => simp [intOf]; omega
          have HX1 := Lib.hid (show ((o, sx) : EdI).1 ≠ 1 from ho)
          have m1 : (o == 1) = false := by simpa using ho
          have r1 := hI.out.1.cell (i := i) hlt
          have r2 := hI.out.1.frozen i
          have HI1 := Lib.hid (hI.out.put HGW.out (p := i) (hI.out.2.1.set ⟨i, _, HX.out, HX1.out, by omega, by omega⟩))
          have HM1 := Lib.hid (setM_self m i)
          generalize hm' : setM m i = m' at *
          clear ho hI hm'
          go_upto_region 11 with fail
          generalize hW : wr.setCell ⟨G, i, none⟩ (.bool true) = W at *
          clear hW r1 r2 c0 c1
          go_wp2_with fail
          go_loopw [7] (fun s7 wx => ∃ m2 : Nat → Bool, (Hid (m2 i = true) ∧ s7 = .int .i64 (-1) ∨ (s7 = .int .i64 1 ∧ Hid (LeftD l a i m2) ∨ s7 = .int .i64 3 ∧ Hid (LeftD l a i m2) ∧ Hid (RightD l a i m2))) ∧ Hid (MarkI w wx G l a i m2)) (fun s7 _ => (3 - intOf s7).toNat)
          case atStart => exact ⟨m', .inl ⟨HM1, rfl⟩, HI1⟩
          case round =>
            clear HM1 HI1
            obtain ⟨m2, hside, hI2⟩ := hrel
            rcases hside with ⟨hme, rfl⟩ | ⟨rfl, hme0⟩ | ⟨rfl, hD1, hD2⟩
            · -- left
              have t0 : (0 : Int) ≤ (a : Int) := Int.natCast_nonneg _
              have IN0 := Lib.hid (show InL l a i 0 m2 from ⟨Nat.zero_le _, Nat.zero_le _, hme.out, fun u u1 u2 => by omega⟩)
              go_upto_region 14 with fail
              go_wp2_with fail
              go_loopw [8, 9] (fun s8 s9 wy => ∃ (t : Nat) (m3 : Nat → Bool) (x y : Int), s8 = .int .i64 y ∧ s9 = .int .i64 x ∧ y = (a : Int) - (t : Int) ∧ x = (i : Int) - 1 - (t : Int) ∧ Hid (InL l a i t m3) ∧ Hid (MarkI w wy G l a i m3) ∧ Hid (True)) (fun s8 _ _ => (intOf s8).toNat)
              case atStart => exact ⟨0, m2, _, _, rfl, rfl, by omega, by omega, IN0, hI2, Lib.hid trivial⟩
              case round =>
                clear IN0
                obtain ⟨t, m3, x, y, rfl, rfl, hy, hx, hin, hI3, hkp⟩ := hrel
                have HTA := Lib.hid hin.out.ta
                have HTI := Lib.hid hin.out.ti
                by_cases g : t < a ∧ t + 1 ≤ i ∧ ∃ z, l[i - (t + 1)]? = some z ∧ z.1 = 1
                · obtain ⟨g1, g2, ⟨oz, sz⟩, hz, hz1⟩ := g
                  simp only at hz1
                  subst hz1
                  obtain ⟨p, hp⟩ : ∃ p, p = i - (t + 1) := ⟨_, rfl⟩
                  rw [← hp] at hz
                  obtain rfl : x = (p : Int) := by omega
                  have hpl := (List.getElem?_eq_some_iff.1 hz).1
                  have p0 : (0 : Int) ≤ (p : Int) := Int.natCast_nonneg _
                  have p1 : (p : Int) < (l.length : Int) := by omega
                  have y0 : 0 < y := by omega
                  have y1 : y ≤ 16 := by have := HAA2.out; omega
                  obtain ⟨ad2, had2, c0, c1⟩ := Eds.at_ (HO.out.below hI3.out.2.2) hz
                  obtain rfl := Option.some.inj had2
                  have r1 := hI3.out.1.cell (i := p) hpl
                  have r2 := hI3.out.1.frozen p
                  have HPP := Lib.hid hp
                  have HYY := Lib.hid hy
                  have HXX := Lib.hid hx
                  have ST := hin.out.step HX.out HX1.out g1 g2 (by rw [← hp]; exact hz) rfl hI3.out.2.1
                  rw [← hp] at ST
                  have HST := Lib.hid ST.1
                  have HMI := Lib.hid (hI3.out.put HGW.out (p := p) ST.2)
                  have HKP := Lib.hid (show True from trivial)
                  clear ST hz hin hI3 had2 hp hy hx
                  go_wp2
                  go_roundw
                  case rel => exact ⟨t + 1, setM m3 p, _, _, rfl, rfl, by have := HYY.out; omega, by have := HXX.out; omega, HST, HMI, HKP⟩
                  case measure => simp [intOf]; omega
                · have HD := Lib.hid (hin.out.done g)
                  have hcs : (i = t) ∨ (t + 1 ≤ i ∧ t = a) ∨ (t + 1 ≤ i ∧ t < a ∧ ∃ z, l[i - (t + 1)]? = some z ∧ z.1 ≠ 1) := by
                    by_cases e1 : t + 1 ≤ i
                    · by_cases e2 : t < a
                      · obtain ⟨z, hz⟩ : ∃ z, l[i - (t + 1)]? = some z := ⟨_, List.getElem?_eq_getElem (by omega)⟩
                        refine .inr (.inr ⟨e1, e2, z, hz, fun e => g ⟨e2, e1, z, hz, e⟩⟩)
                      · exact .inr (.inl ⟨e1, by have := HTA.out; omega⟩)
                    · exact .inl (by have := HTI.out; omega)
                  clear g HTA HTI hin
                  rcases hcs with e | ⟨e, e2⟩ | ⟨e, e2, ⟨oz, sz⟩, hz, hz1⟩
                  · obtain ⟨xx, hxx⟩ : ∃ xx, xx = x := ⟨_, rfl⟩
                    obtain rfl : x = -1 := by omega
                    clear e hx hy hxx xx
                    go_wp2
                    go_roundw
                    case rel => exact ⟨m3, .inr (.inl ⟨rfl, HD⟩), hI3⟩
                    case measure => simp [intOf]
                  · obtain ⟨p, hp⟩ : ∃ p, p = i - (t + 1) := ⟨_, rfl⟩
                    obtain rfl : x = (p : Int) := by omega
                    have p0 : (0 : Int) ≤ (p : Int) := Int.natCast_nonneg _
                    have p1 : (p : Int) < (l.length : Int) := by omega
                    obtain rfl : y = 0 := by omega
                    clear e e2 hx hy hp
                    go_wp2
                    go_roundw
                    case rel => exact ⟨m3, .inr (.inl ⟨rfl, HD⟩), hI3⟩
                    case measure => simp [intOf]
                  · obtain ⟨p, hp⟩ : ∃ p, p = i - (t + 1) := ⟨_, rfl⟩
                    rw [← hp] at hz
                    simp only at hz1
                    obtain rfl : x = (p : Int) := by omega
                    have hpl := (List.getElem?_eq_some_iff.1 hz).1
                    have p0 : (0 : Int) ≤ (p : Int) := Int.natCast_nonneg _
                    have p1 : (p : Int) < (l.length : Int) := by omega
                    have y0 : 0 < y := by omega
                    obtain ⟨ad2, had2, c0, c1⟩ := Eds.at_ (HO.out.below hI3.out.2.2) hz
                    obtain rfl := Option.some.inj had2
                    have m1 : (oz == 1) = false := by simpa using hz1
                    clear hz1 hz had2 e e2 hx hy hp
                    go_wp2
                    go_roundw
                    case rel => exact ⟨m3, .inr (.inl ⟨rfl, HD⟩), hI3⟩
                    case measure => simp [intOf]
            · -- right
              have hme := Lib.hid hme0.out.1
              have t0 : (0 : Int) ≤ (a : Int) := Int.natCast_nonneg _
              have IN0 := Lib.hid (show InR2 l a i 0 m2 from ⟨Nat.zero_le _, by omega, hme.out, fun u u1 u2 => by omega⟩)
              go_upto_region 14 with fail
              go_wp2_with fail
              go_loopw [8, 9] (fun s8 s9 wy => ∃ (t : Nat) (m3 : Nat → Bool) (x y : Int), s8 = .int .i64 y ∧ s9 = .int .i64 x ∧ y = (a : Int) - (t : Int) ∧ x = (i : Int) + 1 + (t : Int) ∧ Hid (InR2 l a i t m3) ∧ Hid (MarkI w wy G l a i m3) ∧ Hid (LeftD l a i m3)) (fun s8 _ _ => (intOf s8).toNat)
              case atStart => exact ⟨0, m2, _, _, rfl, rfl, by omega, by omega, IN0, hI2, hme0⟩
              case round =>
                clear IN0
                obtain ⟨t, m3, x, y, rfl, rfl, hy, hx, hin, hI3, hkp⟩ := hrel
                have HTA := Lib.hid hin.out.ta
                have HTI := Lib.hid hin.out.ti
                by_cases g : t < a ∧ True ∧ ∃ z, l[i + (t + 1)]? = some z ∧ z.1 = 1
                · obtain ⟨g1, g2, ⟨oz, sz⟩, hz, hz1⟩ := g
                  simp only at hz1
                  subst hz1
                  obtain ⟨p, hp⟩ : ∃ p, p = i + (t + 1) := ⟨_, rfl⟩
                  rw [← hp] at hz
                  obtain rfl : x = (p : Int) := by omega
                  have hpl := (List.getElem?_eq_some_iff.1 hz).1
                  have p0 : (0 : Int) ≤ (p : Int) := Int.natCast_nonneg _
                  have p1 : (p : Int) < (l.length : Int) := by omega
                  have y0 : 0 < y := by omega
                  have y1 : y ≤ 16 := by have := HAA2.out; omega
                  obtain ⟨ad2, had2, c0, c1⟩ := Eds.at_ (HO.out.below hI3.out.2.2) hz
                  obtain rfl := Option.some.inj had2
                  have r1 := hI3.out.1.cell (i := p) hpl
                  have r2 := hI3.out.1.frozen p
                  have HPP := Lib.hid hp
                  have HYY := Lib.hid hy
                  have HXX := Lib.hid hx
                  have ST := hin.out.step HX.out HX1.out g1  (by rw [← hp]; exact hz) rfl hI3.out.2.1
                  rw [← hp] at ST
                  have HST := Lib.hid ST.1
                  have HMI := Lib.hid (hI3.out.put HGW.out (p := p) ST.2)
                  have HKP := Lib.hid (show LeftD l a i (setM m3 p) from hkp.out.set)
                  clear ST hz hin hI3 had2 hp hy hx
                  go_wp2
                  go_roundw
                  case rel => exact ⟨t + 1, setM m3 p, _, _, rfl, rfl, by have := HYY.out; omega, by have := HXX.out; omega, HST, HMI, HKP⟩
                  case measure => simp [intOf]; omega
                · have HD := Lib.hid (hin.out.done (fun h => g ⟨h.1, trivial, h.2⟩))
                  have hcs : (i + (t + 1) = l.length) ∨ (i + (t + 1) < l.length ∧ t = a) ∨ (i + (t + 1) < l.length ∧ t < a ∧ ∃ z, l[i + (t + 1)]? = some z ∧ z.1 ≠ 1) := by
                    by_cases e1 : i + (t + 1) < l.length
                    · by_cases e2 : t < a
                      · obtain ⟨z, hz⟩ : ∃ z, l[i + (t + 1)]? = some z := ⟨_, List.getElem?_eq_getElem (by omega)⟩
                        refine .inr (.inr ⟨e1, e2, z, hz, fun e => g ⟨e2, trivial, z, hz, e⟩⟩)
                      · exact .inr (.inl ⟨e1, by have := HTA.out; omega⟩)
                    · exact .inl (by have := HTI.out; omega)
                  clear g HTA HTI hin
                  rcases hcs with e | ⟨e, e2⟩ | ⟨e, e2, ⟨oz, sz⟩, hz, hz1⟩
                  · obtain ⟨xx, hxx⟩ : ∃ xx, xx = x := ⟨_, rfl⟩
                    obtain rfl : x = (l.length : Int) := by omega
                    have x0 : (0 : Int) ≤ (l.length : Int) := Int.natCast_nonneg _
                    clear e hx hy hxx xx
                    go_wp2
                    go_roundw
                    case rel => exact ⟨m3, .inr (.inr ⟨rfl, hkp, HD⟩), hI3⟩
                    case measure => simp [intOf]
                  · obtain ⟨p, hp⟩ : ∃ p, p = i + (t + 1) := ⟨_, rfl⟩
                    obtain rfl : x = (p : Int) := by omega
                    have p0 : (0 : Int) ≤ (p : Int) := Int.natCast_nonneg _
                    have p1 : (p : Int) < (l.length : Int) := by omega
                    obtain rfl : y = 0 := by omega
                    clear e e2 hx hy hp
                    go_wp2
                    go_roundw
                    case rel => exact ⟨m3, .inr (.inr ⟨rfl, hkp, HD⟩), hI3⟩
                    case measure => simp [intOf]
                  · obtain ⟨p, hp⟩ : ∃ p, p = i + (t + 1) := ⟨_, rfl⟩
                    rw [← hp] at hz
                    simp only at hz1
                    obtain rfl : x = (p : Int) := by omega
                    have hpl := (List.getElem?_eq_some_iff.1 hz).1
                    have p0 : (0 : Int) ≤ (p : Int) := Int.natCast_nonneg _
                    have p1 : (p : Int) < (l.length : Int) := by omega
                    have y0 : 0 < y := by omega
                    obtain ⟨ad2, had2, c0, c1⟩ := Eds.at_ (HO.out.below hI3.out.2.2) hz
                    obtain rfl := Option.some.inj had2
                    have m1 : (oz == 1) = false := by simpa using hz1
                    clear hz1 hz had2 e e2 hx hy hp
                    go_wp2
                    go_roundw
                    case rel => exact ⟨m3, .inr (.inr ⟨rfl, hkp, HD⟩), hI3⟩
                    case measure => simp [intOf]
            · have HK := Lib.hid (show MarkI w _ G l a (i + 1) m2 from ⟨hI2.out.1, hI2.out.2.1.full hD1.out hD2.out, hI2.out.2.2⟩)
              go_wp2
              go_roundw
              case rel => exact ⟨i + 1, m2, by omega, by go_num, HK⟩
              case measure => simp [intOf]; omega
        · obtain rfl : i = l.length := by omega
          obtain ⟨HS, hHS⟩ : ∃ HS, HS = hunksP l a := ⟨_, rfl⟩
          have HHS := Lib.hid hHS
          have HRUN := Lib.hid (show runF m [] 0 0 0 (l.drop 0) = HS by rw [List.drop_zero, hHS]; exact runF_hunks l a m hI.out.2.1.near)
          have HR0 := Lib.hid hI.out.1
          have HB0 := Lib.hid hI.out.2.2
          obtain ⟨j0, hj0, hz0, hz1, hz2⟩ := info_parts refHunkInfo
          obtain ⟨i0e, hie, he0, he1, he2⟩ := info_parts refEditInfo
          clear hI hHS HAA HAA2 hlt
          go_wp2_with fail
          go_loopw [10, 11, 12, 13] (fun s10 s11 s12 s13 wz => ∃ (k i j : Nat) (hs : List Hk), k ≤ l.length ∧ s13 = .int .i64 k ∧ s11 = .int .i64 i ∧ s12 = .int .i64 j ∧ (i ≤ k ∧ j ≤ k) ∧ Hid (OutsI w wz s10 G l.length m hs) ∧ Hid (runF m hs k i j (l.drop k) = HS) ∧ Hid (hs.length ≤ k) ∧ Hid (0 < k → m (k - 1) = true → hs ≠ []) ∧ Hid (∀ h ∈ hs, 0 ≤ h.del ∧ h.del ≤ k ∧ 0 ≤ h.add ∧ h.add ≤ k ∧ h.ls.length ≤ k)) (fun _ _ _ s13 _ => l.length - (intOf s13).toNat)
          case atStart => exact ⟨0, 0, 0, [], Nat.zero_le _, rfl, rfl, rfl, ⟨Nat.le_refl _, Nat.le_refl _⟩, Lib.hid (.inl ⟨rfl, rfl, HR0.out, HB0.out⟩), HRUN, Lib.hid (Nat.le_refl _), Lib.hid (fun h => by omega), Lib.hid (fun h hh => by cases hh)⟩
          case round =>
            obtain ⟨k, i, j, hs, hk, rfl, rfl, rfl, ⟨hik, hjk⟩, hO, hrun, hlen, hne, hsm⟩ := hrel
            have k0 : (0 : Int) ≤ (k : Int) := Int.natCast_nonneg _
            have i0' : (0 : Int) ≤ (i : Int) := Int.natCast_nonneg _
            have j0' : (0 : Int) ≤ (j : Int) := Int.natCast_nonneg _
            by_cases hlt : k < l.length
            · have k1 : (k : Int) < (l.length : Int) := by omega
              obtain ⟨⟨o, sx⟩, hx⟩ : ∃ x, l[k]? = some x := ⟨_, List.getElem?_eq_getElem hlt⟩
              obtain ⟨vals, hown, hhv, hrow, hbel⟩ := hO.out.parts
              obtain ⟨ad, rfl, c0, c1⟩ := Eds.at_ (HO.out.below hbel) hx
              have HX := Lib.hid hx
              have hop := HP.out _ (List.mem_of_getElem? hx)
              simp only at hop
              have HSTEP := Lib.hid (show runF m (stepR m hs k i j (o, sx)) (k + 1) (i + if isDel (o, sx) then 1 else 0) (j + if isAdd (o, sx) then 1 else 0) (l.drop (k + 1)) = HS by have := hrun.out; rw [drop_consP hx] at this; exact this)
              have r1 := hrow.cell (i := k) hlt
              clear hx hrun hown hhv
              cases hmk : m k with
              | false =>
                rw [hmk] at r1
                have HOUT := Lib.hid (show stepR m hs k i j (o, sx) = hs by unfold stepR; rw [hmk]; rfl)
                have HNE := Lib.hid (show 0 < k + 1 → m (k + 1 - 1) = true → hs ≠ [] by intro _ h; rw [show k + 1 - 1 = k by omega, hmk] at h; cases h)
                have HSM := Lib.hid (show ∀ h ∈ hs, 0 ≤ h.del ∧ h.del ≤ ((k + 1 : Nat) : Int) ∧ 0 ≤ h.add ∧ h.add ≤ ((k + 1 : Nat) : Int) ∧ h.ls.length ≤ k + 1 from fun h hh => by have := hsm.out h hh; omega)
                clear hmk hrow hbel
                rcases hop with rfl | rfl | rfl
                · go_wp2
                  go_roundw
                  case rel => exact ⟨k + 1, i + 1, j + 1, hs, by omega, by go_num, by go_num, by go_num, ⟨by omega, by omega⟩, hO, Lib.hid (by have := HSTEP.out; rw [HOUT.out] at this; exact this), Lib.hid (by have := hlen.out; omega), HNE, HSM⟩
                  case measure => simp [intOf]; omega
                · go_wp2
                  go_roundw
                  case rel => exact ⟨k + 1, i + 1, j, hs, by omega, by go_num, by go_num, by go_num, ⟨by omega, by omega⟩, hO, Lib.hid (by have := HSTEP.out; rw [HOUT.out] at this; exact this), Lib.hid (by have := hlen.out; omega), HNE, HSM⟩
                  case measure => simp [intOf]; omega
                · go_wp2
                  go_roundw
                  case rel => exact ⟨k + 1, i, j + 1, hs, by omega, by go_num, by go_num, by go_num, ⟨by omega, by omega⟩, hO, Lib.hid (by have := HSTEP.out; rw [HOUT.out] at this; exact this), Lib.hid (by have := hlen.out; omega), HNE, HSM⟩
                  case measure => simp [intOf]; omega
              | true =>
                rw [hmk] at r1
                have HMK := Lib.hid hmk
                clear hmk
                go_upto_region 27 with fail
                obtain ⟨nw, hnw⟩ : ∃ nw : Bool, nw = decide (k = 0 ∨ m (k - 1) = false) := ⟨_, rfl⟩
                go_cut [92] (fun s92 wy => s92 = .bool nw ∧ wy = wr)
                case first =>
                  by_cases hk0 : k = 0
                  · have hnw2 : nw = true := by rw [hnw]; exact decide_eq_true (.inl hk0)
                    have kz : ((k : Int) == 0) = true := by simpa using hk0
                    clear hk0 hnw
                    go_wp2_with fail
                    go_meet
                    exact ⟨by rw [hnw2], rfl⟩
                  · have kz : ((k : Int) == 0) = false := by simpa using hk0
                    have kp : (0 : Int) ≤ (k : Int) - 1 := by omega
                    have kl : (k : Int) - 1 < (l.length : Int) := by omega
                    have kt : ((k : Int) - 1).toNat = k - 1 := by omega
                    have r2 := hrow.cell (i := k - 1) (by omega)
                    cases hmp : m (k - 1) with
                    | false =>
                      rw [hmp] at r2
                      have hnw2 : nw = true := by rw [hnw]; exact decide_eq_true (.inr hmp)
                      clear hk0 hnw hmp
                      go_wp2_with fail
                      go_meet
                      exact ⟨by rw [hnw2], rfl⟩
                    | true =>
                      rw [hmp] at r2
                      have hnw2 : nw = false := by rw [hnw]; exact decide_eq_false (by rintro (h | h); exact hk0 h; rw [hmp] at h; cases h)
                      clear hk0 hnw hmp
                      go_wp2_with fail
                      go_meet
                      exact ⟨by rw [hnw2], rfl⟩
                case rest =>
                  obtain ⟨rfl, hw1⟩ := hcut
                  rw [hw1]
                  clear hw1 wc
                  have HNW := Lib.hid hnw
                  clear hnw
                  go_upto_if 92 with fail
                  go_cut [10] (fun s10 wy => ∃ (gg cap pn : Nat) (pre : List Hk) (h : Hk) (vp : List Value) (vl : Value) (M : Nat), s10 = .slice (some ⟨gg, 0, none⟩) (pn + 1) cap ∧ Hid (pn = pre.length) ∧ Hid (pre ++ [h] = if k = 0 ∨ m (k - 1) = false then hs ++ [⟨(i : Int), 0, (j : Int), 0, []⟩] else hs) ∧ Hid (LI w wy gg cap G l.length m pre h vp vl M) ∧ Hid (∀ h' ∈ pre ++ [h], 0 ≤ h'.del ∧ h'.del ≤ k ∧ 0 ≤ h'.add ∧ h'.add ≤ k ∧ h'.ls.length ≤ k) ∧ Hid (pre.length ≤ k))
                  case first =>
                    cases nw with
                    | false =>
                      have hno : ¬ (k = 0 ∨ m (k - 1) = false) := of_decide_eq_false HNW.out.symm
                      have hmp : m (k - 1) = true := by cases h : m (k - 1) with
                        | true => rfl
                        | false => exact absurd (.inr h) hno
                      have hnn := hne.out (by omega) hmp
                      rcases hO.out with ⟨e, _⟩ | ⟨gg, cap, pre, h, vp, vl, M, rfl, hsE, q⟩
                      · exact absurd e hnn
                      · have HQ := Lib.hid q
                        have HE := Lib.hid hsE
                        have HNO := Lib.hid hno
                        clear hno hmp hnn q hsE
                        go_wp2_with fail
                        go_meet
                        exact ⟨gg, cap, pre.length, pre, h, vp, vl, M, rfl, Lib.hid rfl, Lib.hid (by rw [if_neg HNO.out]; exact HE.out.symm), HQ, Lib.hid (by rw [← HE.out]; exact hsm.out), Lib.hid (by have h1 := hlen.out; rw [HE.out, List.length_append] at h1; simp at h1; omega)⟩
                    | true =>
                      have hyes : k = 0 ∨ m (k - 1) = false := of_decide_eq_true HNW.out.symm
                      have HYES := Lib.hid hyes
                      obtain ⟨vals, hown, hhv, hrow2, hbel2⟩ := hO.out.parts
                      obtain ⟨A10, c10, rfl⟩ := own_formP hown
                      have HOWN := Lib.hid hown
                      have HHV := Lib.hid hhv
                      have HROW := Lib.hid hrow2
                      have hlen2 := hlen.out
                      have hown4 := hown.alloc (.cells #[.int .i64 (i : Int), .int .i64 0, .int .i64 (j : Int), .int .i64 0, .slice none 0 0] 114)
                      have hnews := World.news_of_block (cs := #[.int .i64 (i : Int), .int .i64 0, .int .i64 (j : Int), .int .i64 0, .slice none 0 0]) (t := 114) (fr := (0, 0)) (heap_alloc_new wr (.cells #[.int .i64 (i : Int), .int .i64 0, .int .i64 (j : Int), .int .i64 0, .slice none 0 0] 114))
                      have hb4 := hbel2.alloc hbel2.size (.cells #[.int .i64 (i : Int), .int .i64 0, .int .i64 (j : Int), .int .i64 0, .slice none 0 0] 114)
                      have hsz4 := hb4.size
                      clear hyes hhv hrow2
                      go_wp2_with (at_builtin; refine wpList_append_lies _ rfl _ _ 53 rfl w.heap.size 114 j0 (.agg #[.int .i64 0, .int .i64 0, .int .i64 0, .int .i64 0, .slice none 0 0]) 5 56 Tryd.underlying53 hj0 hz0 hz1 hz2 rfl (by decide) _ _ _ rfl hown4 ⟨wr.heap.size, 0, none⟩ 1 1 [.int .i64 (i : Int), .int .i64 0, .int .i64 (j : Int), .int .i64 0, .slice none 0 0] rfl rfl hnews (by simp [Value.oneCell']) (by decide) (by unfold maxLen; omega) (by omega) hsz4 (wr.heap.size + 1) (by simp) ?_; intro gg cap w5 hown5 hg5 _ _)
                      go_meet
                      have hv5 : HkV 91 w5 w.heap.size vals hs := HHV.out.keep fun v n xs hr => kept_ne (hr.alloc _) hown4 (by decide) hg5
                      have hr5 : w5.rowIs G 4 l.length (fun t => .bool (m t)) := by
                        obtain ⟨cs, hcs⟩ := rowIs_blk (HROW.out.alloc (.cells #[.int .i64 (i : Int), .int .i64 0, .int .i64 (j : Int), .int .i64 0, .slice none 0 0] 114))
                        exact (HROW.out.alloc _).of_block (hg5.block G (HROW.out.alloc _).lt (fun e => own_blk_ne hown4 hcs (by decide) e.symm))
                      have hb5 : Below w.heap.size w w5 := hb4.grown hg5 hsz4 (fun z hz => (HOWN.out.lt z hz).1)
                      exact ⟨gg, cap, hs.length, hs, ⟨(i : Int), 0, (j : Int), 0, []⟩, vals, .slice none 0 0, w5.heap.size, rfl, Lib.hid rfl, Lib.hid (by rw [if_pos HYES.out]), Lib.hid (LI.fresh hown5 hv5 hr5 hb5), Lib.hid (fun h' hh' => by
                        rcases List.mem_append.1 hh' with hh' | hh'
                        · exact hsm.out h' hh'
                        · rw [List.mem_singleton] at hh'; subst hh'; exact ⟨Int.le_refl _, Int.natCast_nonneg _, Int.le_refl _, Int.natCast_nonneg _, Nat.zero_le _⟩), hlen⟩
                  case rest =>
                    obtain ⟨gg, cap, pn, pre, h, vp, vl, M, rfl, hpn, hE, hQ, hS, hpl⟩ := hcut
                    clear hO hlen hne hsm hrow hbel c0 c1 r1
                    obtain ⟨wx, hwx⟩ : ∃ wx : World, wx = wc := ⟨_, rfl⟩
                    rw [← hwx] at hQ ⊢
                    clear hwx
                    have hpk : pn ≤ k := by have := hpl.out; have := hpn.out; omega
                    have pn0 : (0 : Int) ≤ (pn : Int) := Int.natCast_nonneg _
                    go_upto_region 30 with fail
                    obtain ⟨at_, del, to_, add, ls⟩ := h
                    obtain ⟨A5, c5v, rfl⟩ := own_formP hQ.out.l
                    simp only at hQ
                    obtain ⟨NL, hNL⟩ : ∃ NL, NL = ls.length := ⟨_, rfl⟩
                    have HNL := Lib.hid hNL
                    have hbase := hQ.out.ms
                    have hSm := hS.out ⟨at_, del, to_, add, ls⟩ (by simp)
                    simp only at hSm
                    obtain ⟨d0, d1, a0, a1, l1⟩ := hSm
                    have HSL := Lib.hid (show 0 ≤ del ∧ del ≤ k ∧ 0 ≤ add ∧ add ≤ k ∧ ls.length ≤ k from ⟨d0, d1, a0, a1, l1⟩)
                    have d2 : del ≤ 1000 := by omega
                    have a2 : add ≤ 1000 := by omega
                    have l2 : NL ≤ 1000 := by omega
                    have HL := Lib.hid hQ.out.l
                    simp only at HL
                    rw [← hNL] at hQ HL
                    have Qa := Lib.hid ((hQ.out.alloc (.cells #[.int .i64 o, .string sx] 91)).drew)
                    obtain ⟨ad', had', e0, e1⟩ := Eds.at_ (HO.out.below hQ.out.b) HX.out
                    obtain rfl := Option.some.inj had'
                    simp only at e0 e1
                    have y4 := hQ.out.cellN hpn.out 4 (by decide)
                    have y4a := Qa.out.cellN hpn.out 4 (by decide)
                    have HBS := Lib.hid (show M ≤ (wx.alloc (.cells #[.int .i64 o, .string sx] 91)).drew.heap.size from Qa.out.ms)
                    clear hNL had' d1 a1 l1 hbase
                    go_cut [114] (fun _ wy => ∃ (g5 c5 : Nat), Hid (LI w wy gg cap G l.length m pre ⟨at_, del, to_, add, ls ++ [(o, sx)]⟩ vp (.slice (some ⟨g5, 0, none⟩) (NL + 1) c5) M))
                    case first =>
                      go_region_law (first
                        | (refine step_append_lies _ (by rfl) _ _ 30 (by rfl) M 91 i0e (.agg #[.int .i64 0, .string ⟨#[]⟩]) 2 24 Tryd.underlying30 hie he0 he1 he2 rfl (by omega) _ NL (ls.flatMap cEd) (by rfl) ((HL.out.alloc _).drew) ⟨wx.heap.size, 0, none⟩ 1 1 [.int .i64 o, .string sx] (by rfl) (by rfl) (World.news_of_block (cs := #[.int .i64 o, .string sx]) (t := 91) (fr := (0, 0)) (heap_alloc_new wx _)) (by simp [Value.oneCell']) (by omega) (by unfold maxLen; omega) (by omega) HBS.out (wx.heap.size + 1) (by simp) ?_; intro g5 c5 w5 hown5 hg5 _ _; have GR := Qa.out.grownN hpn.out HNL.out hg5 hown5; have kc := GR.1; have kz := GR.2.1))
                      all_goals
                        have Q6 := Lib.hid GR.2.2
                        clear GR kc kz y4 y4a e0 e1 hown5 hg5
                        go_wp2_with fail
                        go_meet
                        exact ⟨g5, c5, Q6⟩
                    case rest =>
                      obtain ⟨g5, c5, Q6⟩ := hcut
                      clear y4 y4a e0 e1 Qa HBS HL hQ
                      generalize wc = W6 at *
                      obtain ⟨ad6, had6, e0, e1⟩ := Eds.at_ (HO.out.below Q6.out.b) HX.out
                      obtain rfl := Option.some.inj had6
                      simp only at e0 e1
                      clear had6
                      have HRUN1 := Lib.hid (step_run HSTEP.out HMK.out hE.out)
                      rcases hop with rfl | rfl | rfl
                      · have HRUN2 := Lib.hid (run_1 HRUN1.out)
                        clear HRUN1
                        have z1 := Q6.out.cellN hpn.out 1 (by decide)
                        have f1 := Q6.out.frozenN pn 1
                        have Q7 := Lib.hid (Q6.out.setDelN hpn.out (del + 1))
                        simp only at Q7 z1
                        go_upto_region 33 with fail
                        generalize hW7 : W6.setCell ⟨gg, pn * 5 + 1, none⟩ (.int .i64 (del + 1)) = W7 at *
                        clear hW7 z1 f1 e0 e1
                        obtain ⟨ad7, h7, e0, e1⟩ := Eds.at_ (HO.out.below Q7.out.b) HX.out
                        obtain rfl := Option.some.inj h7
                        simp only at e0 e1
                        clear h7
                        have z3 := Q7.out.cellN hpn.out 3 (by decide)
                        have f3 := Q7.out.frozenN pn 3
                        have Q8 := Lib.hid (Q7.out.setAddN hpn.out (add + 1))
                        simp only at Q8 z3
                        go_upto_region 35 with fail
                        generalize hW8 : W7.setCell ⟨gg, pn * 5 + 3, none⟩ (.int .i64 (add + 1)) = W8 at *
                        clear hW8 z3 f3 e0 e1
                        obtain ⟨ad8, h8, e0, e1⟩ := Eds.at_ (HO.out.below Q8.out.b) HX.out
                        obtain rfl := Option.some.inj h8
                        simp only at e0 e1
                        clear h8
                        go_wp2_with fail
                        go_roundw
                        case rel => exact ⟨k + 1, i + 1, j + 1, pre ++ [⟨at_, del + 1, to_, add + 1, ls ++ [(1, sx)]⟩], by omega, by go_num, by go_num, by go_num, ⟨by omega, by omega⟩, Lib.hid (.inr ⟨gg, cap, pre, _, vp, _, M, by rw [hpn.out], rfl, Q8.out⟩), HRUN2, Lib.hid (by have := hpl.out; rw [List.length_append]; simp; omega), Lib.hid (fun _ _ h => by simp at h), Lib.hid (fun h' hh' => by
                          rcases List.mem_append.1 hh' with hh' | hh'
                          · have := hS.out h' (List.mem_append.2 (.inl hh')); omega
                          · rw [List.mem_singleton] at hh'; subst hh'; have := HSL.out; simp only [List.length_append, List.length_singleton]; omega)⟩
                        case measure => simp [intOf]; omega
                      · have HRUN2 := Lib.hid (run_2 HRUN1.out)
                        clear HRUN1
                        have z1 := Q6.out.cellN hpn.out 1 (by decide)
                        have f1 := Q6.out.frozenN pn 1
                        have Q7 := Lib.hid (Q6.out.setDelN hpn.out (del + 1))
                        simp only at Q7 z1
                        go_upto_region 33 with fail
                        generalize hW7 : W6.setCell ⟨gg, pn * 5 + 1, none⟩ (.int .i64 (del + 1)) = W7 at *
                        clear hW7 z1 f1 e0 e1
                        obtain ⟨ad7, h7, e0, e1⟩ := Eds.at_ (HO.out.below Q7.out.b) HX.out
                        obtain rfl := Option.some.inj h7
                        simp only at e0 e1
                        clear h7
                        go_wp2_with fail
                        go_roundw
                        case rel => exact ⟨k + 1, i + 1, j, pre ++ [⟨at_, del + 1, to_, add, ls ++ [(2, sx)]⟩], by omega, by go_num, by go_num, rfl, ⟨by omega, by omega⟩, Lib.hid (.inr ⟨gg, cap, pre, _, vp, _, M, by rw [hpn.out], rfl, Q7.out⟩), HRUN2, Lib.hid (by have := hpl.out; rw [List.length_append]; simp; omega), Lib.hid (fun _ _ h => by simp at h), Lib.hid (fun h' hh' => by
                          rcases List.mem_append.1 hh' with hh' | hh'
                          · have := hS.out h' (List.mem_append.2 (.inl hh')); omega
                          · rw [List.mem_singleton] at hh'; subst hh'; have := HSL.out; simp only [List.length_append, List.length_singleton]; omega)⟩
                        case measure => simp [intOf]; omega
                      · have HRUN2 := Lib.hid (run_3 HRUN1.out)
                        clear HRUN1
                        have z3 := Q6.out.cellN hpn.out 3 (by decide)
                        have f3 := Q6.out.frozenN pn 3
                        have Q7 := Lib.hid (Q6.out.setAddN hpn.out (add + 1))
                        simp only at Q7 z3
                        go_upto_region 35 with fail
                        generalize hW7 : W6.setCell ⟨gg, pn * 5 + 3, none⟩ (.int .i64 (add + 1)) = W7 at *
                        clear hW7 z3 f3 e0 e1
                        obtain ⟨ad7, h7, e0, e1⟩ := Eds.at_ (HO.out.below Q7.out.b) HX.out
                        obtain rfl := Option.some.inj h7
                        simp only at e0 e1
                        clear h7
                        go_wp2_with fail
                        go_roundw
                        case rel => exact ⟨k + 1, i, j + 1, pre ++ [⟨at_, del, to_, add + 1, ls ++ [(3, sx)]⟩], by omega, by go_num, rfl, by go_num, ⟨by omega, by omega⟩, Lib.hid (.inr ⟨gg, cap, pre, _, vp, _, M, by rw [hpn.out], rfl, Q7.out⟩), HRUN2, Lib.hid (by have := hpl.out; rw [List.length_append]; simp; omega), Lib.hid (fun _ _ h => by simp at h), Lib.hid (fun h' hh' => by
                          rcases List.mem_append.1 hh' with hh' | hh'
                          · have := hS.out h' (List.mem_append.2 (.inl hh')); omega
                          · rw [List.mem_singleton] at hh'; subst hh'; have := HSL.out; simp only [List.length_append, List.length_singleton]; omega)⟩
                        case measure => simp [intOf]; omega
            · obtain rfl : k = l.length := by omega
              obtain ⟨vals, hown, hhv, hrow, hbel⟩ := hO.out.parts
              have HFIN : Hid (hs = HS) := Lib.hid (by have := hrun.out; rw [List.drop_length] at this; exact this)
              go_wp2
              go_ret
              exact ⟨_, vals, rfl, by rw [← HHS.out, ← HFIN.out]; exact hown, by rw [← HHS.out, ← HFIN.out]; exact hhv, hbel⟩
end Go.Proofs.YtdpoeagmeiedcaaDoor

namespace Go.Proofs.YtdpoeagmeiedcaaDoor
open Go Go.RowKit

structure XI (w0 w : World) (X : Nat) (a d t f : Int) (vl : Value) (O : List EdI) (M : Nat) (s3 : Value) (vals : List Value) (done : List Hk) : Prop where
  x : Blk w X 114 #[.int .i64 a, .int .i64 d, .int .i64 t, .int .i64 f, vl]
  o : w.ownsRow w0.heap.size 114 5 s3 done.length vals
  xo : s3.ownBlock ≠ some X
  xb : w0.heap.size ≤ X
  bm : w0.heap.size ≤ M
  ms : M ≤ w.heap.size
  u : HkU w w0.heap.size M vals done
  l : w.ownsRow M 91 2 vl O.length (O.flatMap cEd)
  b : Below w0.heap.size w0 w
section
variable {w0 w : World} {X : Nat} {a d t f : Int} {vl : Value} {O : List EdI} {M : Nat} {s3 : Value} {vals : List Value} {done : List Hk}
theorem XI.alloc (q : XI w0 w X a d t f vl O M s3 vals done) (o : Obj) : XI w0 (w.alloc o) X a d t f vl O M s3 vals done :=
  ⟨q.x.alloc o, q.o.alloc o, q.xo, q.xb, q.bm, by have := q.ms; simp; omega, q.u.keep fun v n xs hr _ => hr.alloc o, q.l.alloc o, q.b.alloc q.b.size o⟩
theorem XI.drew (q : XI w0 w X a d t f vl O M s3 vals done) : XI w0 w.drew X a d t f vl O M s3 vals done :=
  ⟨q.x, q.o, q.xo, q.xb, q.bm, q.ms, HkU.keep (w := w) (w' := w.drew) (fun _ _ _ hr _ => hr) q.u, q.l, q.b.drew⟩
theorem XI.cell (q : XI w0 w X a d t f vl O M s3 vals done) : w.cell? ⟨X, 4, none⟩ = some vl := q.x.cell 4
theorem XI.grown {NL : Nat} {w5 : World} (q : XI w0 w X a d t f vl O M s3 vals done) (hN : NL = O.length) (hg : w.grownBy w5 vl.ownBlock) {v5 : Value} {o : Int} {s : ByteArray} (ho : w5.ownsRow M 91 2 v5 (NL + 1) (O.flatMap cEd ++ [.int .i64 o, .string s])) :
    w5.cell? ⟨X, 4, none⟩ = some vl ∧ w5.frozen? ⟨X, 4, none⟩ = false ∧ XI w0 (w5.setCell ⟨X, 4, none⟩ v5) X a d t f v5 (O ++ [(o, s)]) M s3 vals done := by
  subst hN
  have hlk : ∀ z, vl.ownBlock = some z → w0.heap.size ≤ z := fun z hz => Nat.le_trans q.bm (q.l.lt z hz).1
  have x5 := q.x.grown hg (fun e => own_blk_ne q.l q.x (by decide) e.symm)
  have o5 := kept_ne q.o q.l (by decide) hg
  have u5 : HkU w5 w0.heap.size M vals done := q.u.keep fun v N xs hr hM => by
    refine hr.kept hg ?_
    cases hy : v.ownBlock with
    | none => exact .inl rfl
    | some g => exact .inr fun e => by have h1 := hM g hy; have h2 := (q.l.lt g e.symm).1; omega
  have b5 : Below w0.heap.size w0 w5 := q.b.grown hg q.b.size hlk
  have c5 : w5.ownsRow M 91 2 v5 (O ++ [(o, s)]).length ((O ++ [(o, s)]).flatMap cEd) := by
    rw [List.length_append, flat_snocP]
    exact ho
  refine ⟨x5.cell 4, x5.frozen 4, ?_, kept_at o5 q.xo 4 v5, q.xo, q.xb, q.bm, by simp; exact Nat.le_trans q.ms hg.size, u5.keep fun v N xs hr _ => kept_at hr (own_blk_ne hr x5 (by decide)) _ _, kept_at c5 (own_blk_ne c5 x5 (by decide)) _ _, b5.setCell (p := ⟨X, 4, none⟩) q.xb v5⟩
  have := x5.set_ 4 v5
  simpa using this
end
/-- A run of changes, turned. -/
theorem tlF_run : ∀ (run p rest : List EdI), (∀ e ∈ run, e.1 = 2 ∨ e.1 = 3) → (∀ e, rest[0]? = some e → e.1 = 1) → tlF p (run ++ rest) = turnO run ++ (p ++ turnA run) ++ tlF [] rest
  | [], p, [], _, _ => by simp [tlF, turnO, turnA]
  | [], p, e :: rest, _, h => by
    have h1 := h e rfl
    show (if e.1 = 3 then _ else if e.1 = 2 then _ else p ++ e :: tlF [] rest) = _
    rw [if_neg (by omega), if_neg (by omega)]
    show _ = [] ++ (p ++ []) ++ (if e.1 = 3 then _ else if e.1 = 2 then _ else [] ++ e :: tlF [] rest)
    rw [if_neg (by omega), if_neg (by omega)]
    simp
  | (o, s) :: run, p, rest, hr, h => by
    have ho := hr (o, s) List.mem_cons_self
    have ih := fun p => tlF_run run p rest (fun e he => hr e (List.mem_cons_of_mem _ he)) h
    simp only at ho
    rcases ho with rfl | rfl
    · show tlF (p ++ [(3, s)]) (run ++ rest) = turnO run ++ (p ++ (3, s) :: turnA run) ++ tlF [] rest
      rw [ih, List.append_assoc p]
      rfl
    · show (2, s) :: tlF p (run ++ rest) = (2, s) :: turnO run ++ (p ++ turnA run) ++ tlF [] rest
      rw [ih]
      rfl
theorem tlF_keep (p : List EdI) (s : ByteArray) (l : List EdI) : tlF p ((1, s) :: l) = p ++ (1, s) :: tlF [] l := rfl
end Go.Proofs.YtdpoeagmeiedcaaDoor

namespace Go.Proofs.YtdpoeagmeiedcaaDoor
open Go Go.RowKit

theorem cutE_snoc {l : List EdI} {i j : Nat} {e : EdI} (h : i ≤ j) (hx : l[j]? = some e) : cutE l i (j + 1) = cutE l i j ++ [e] := by
  unfold cutE
  rw [show j + 1 - i = j - i + 1 by omega]
  exact take_snocP (by rw [List.getElem?_drop, show i + (j - i) = j by omega]; exact hx)
theorem mem_cutE_of {l : List EdI} {i j x : Nat} {e : EdI} (h1 : i ≤ x) (h2 : x < j) (hx : l[x]? = some e) : e ∈ cutE l i j := by
  unfold cutE
  refine List.mem_iff_getElem?.2 ⟨x - i, ?_⟩
  rw [List.getElem?_take, if_pos (by omega), List.getElem?_drop, show i + (x - i) = x by omega]
  exact hx

set_option maxRecDepth 100000 in
set_option maxHeartbeats 8000000 in
theorem refTurned_any (w : World) (v : Value) (hs : List Hk) (h : HksIn w v hs) (hl : hs.length ≤ 1000) (hll : ∀ x ∈ hs, x.ls.length ≤ 1000 ∧ ∀ e ∈ x.ls, e.1 = 1 ∨ e.1 = 2 ∨ e.1 = 3) :
    Calls Tryd.prog 28 #[v] w (HunksTo 114 91 (hs.map turnG) w) := by
  obtain ⟨A, c, rfl⟩ := h.form
  have hnm : c ≤ 9223372036854775807 := by have := h.len.2.2; unfold maxLen at this; omega
  have hnc := h.len.2.1
  have HH := Lib.hid h
  have HLL := Lib.hid hll
  obtain ⟨j0, hj0, hz0, hz1, hz2⟩ := info_parts refHunkInfo
  obtain ⟨i0e, hie, he0, he1, he2⟩ := info_parts refEditInfo
  clear h hll
  go_enter Tryd.func28, Tryd.ntmps28
  go_wp2_with fail
  go_loopw [3, 4] (fun s3 s4 wr => ∃ (i : Nat) (vals : List Value), i ≤ hs.length ∧ s4 = .int .i64 i ∧ Hid (wr.ownsRow w.heap.size 114 5 s3 i vals) ∧ Hid (HkV 91 wr w.heap.size vals ((hs.take i).map turnG)) ∧ Hid (Below w.heap.size w wr)) (fun _ s4 _ => hs.length - (intOf s4).toNat)
  case atStart => exact ⟨0, [], Nat.zero_le _, rfl, Lib.hid (World.ownsRow_nil _ _ _ _), Lib.hid rfl, Lib.hid (Below.refl _ _)⟩
  case round =>
    obtain ⟨i, vals, hil, rfl, hown, hv, hb⟩ := hrel
    have i0' : (0 : Int) ≤ (i : Int) := Int.natCast_nonneg _
    by_cases hlt : i < hs.length
    · obtain ⟨x, hx⟩ : ∃ x, hs[i]? = some x := ⟨_, List.getElem?_eq_getElem hlt⟩
      obtain ⟨ad, vl, rfl, c0, c1, c2, c3, c4, hrd⟩ := HH.out.at2 hb.out hx
      obtain ⟨hxl, hxo⟩ := HLL.out x (List.mem_of_getElem? hx)
      have HF := Lib.hid hx
      have HXO := Lib.hid hxo
      obtain ⟨at_, del, to_, add, ls⟩ := x
      simp only at c0 c1 c2 c3 hrd hxl HXO
      obtain ⟨Al, cl, rfl⟩ := hrd.form
      have HRD := Lib.hid hrd
      have hlc := hrd.len.2.1
      have hlm : cl ≤ 9223372036854775807 := by have := hrd.len.2.2; unfold maxLen at this; omega
      have hi1 : (i : Int) < (hs.length : Int) := by omega
      clear hx hrd hxo
      go_upto_region 5 with fail
      have z0 : wr.drew.cell? (ad.add (i * 5)) = some (.int .i64 at_) ∧ wr.drew.cell? ⟨(ad.add (i * 5)).block, (ad.add (i * 5)).off + 1, none⟩ = some (.int .i64 del) ∧ wr.drew.cell? ⟨(ad.add (i * 5)).block, (ad.add (i * 5)).off + 2, none⟩ = some (.int .i64 to_) ∧ wr.drew.cell? ⟨(ad.add (i * 5)).block, (ad.add (i * 5)).off + 3, none⟩ = some (.int .i64 add) := ⟨c0, c1, c2, c3⟩
      obtain ⟨X, hX⟩ : ∃ X, X = wr.heap.size := ⟨_, rfl⟩
      obtain ⟨done, hdone⟩ : ∃ d, d = (hs.take i).map turnG := ⟨_, rfl⟩
      have hdl : done.length = i := by rw [hdone, List.length_map, List.length_take]; omega
      have HDONE := Lib.hid hdone
      have HDL := Lib.hid hdl
      obtain ⟨M, hM⟩ : ∃ M, M = wr.heap.size + 1 := ⟨_, rfl⟩
      have Q0 : Hid (XI w (wr.alloc (.cells #[.int .i64 to_, .int .i64 add, .int .i64 at_, .int .i64 del, .slice none 0 0] 114)).drew X to_ add at_ del (.slice none 0 0) [] M u3 vals done) := Lib.hid (XI.drew ⟨by rw [hX]; exact Blk.new wr 114 _, by rw [hdl]; exact hown.out.alloc _, fun hg => by have := (hown.out.lt _ hg).2; omega, by have := hb.out.size; omega, by have := hb.out.size; omega, by rw [hM]; simp, by rw [hdone]; exact (hv.out.keep fun v n xs hr => hr.alloc _).toU (by rw [hM]; simp), World.ownsRow_nil _ _ _ _, hb.out.alloc hb.out.size _⟩)
      obtain ⟨TL, hTL⟩ : ∃ TL, TL = tlF [] ls := ⟨_, rfl⟩
      have HTL := Lib.hid hTL
      have c4W : (wr.alloc (.cells #[.int .i64 to_, .int .i64 add, .int .i64 at_, .int .i64 del, .slice none 0 0] 114)).drew.cell? ⟨(ad.add (i * 5)).block, (ad.add (i * 5)).off + 4, none⟩ = some (.slice Al ls.length cl) := (World.cell?_alloc_lt wr (.cells #[.int .i64 to_, .int .i64 add, .int .i64 at_, .int .i64 del, .slice none 0 0] 114) _ (World.block_lt_of_cell? _ _ c4)).trans c4
      have HX := Lib.hid hX
      have HM := Lib.hid hM
      have HB0 := Lib.hid hb
      clear hX hM hdl hdone hTL hown hv hb
      go_region_held3 (fun w' => w'.cell? (ad.add (i * 5)) = some (.int .i64 at_) ∧ w'.cell? ⟨(ad.add (i * 5)).block, (ad.add (i * 5)).off + 1, none⟩ = some (.int .i64 del) ∧ w'.cell? ⟨(ad.add (i * 5)).block, (ad.add (i * 5)).off + 2, none⟩ = some (.int .i64 to_) ∧ w'.cell? ⟨(ad.add (i * 5)).block, (ad.add (i * 5)).off + 3, none⟩ = some (.int .i64 add)) (first | exact z0 | go_keep) (fail)
      all_goals
        clear z0 c0 c1 c2 c3 c4
        rw [← HX.out]
        generalize hW : (wr.alloc (.cells #[.int .i64 to_, .int .i64 add, .int .i64 at_, .int .i64 del, .slice none 0 0] 114)).drew = W at *
        clear hW
        go_wp2_with fail
        clear c4W
        go_loopw [7] (fun s7 wy => ∃ (k : Nat) (vl : Value) (O : List EdI), k ≤ ls.length ∧ s7 = .int .i64 k ∧ Hid (XI w wy X to_ add at_ del vl O M u3 vals done) ∧ Hid (O ++ tlF [] (ls.drop k) = TL) ∧ Hid (O.length ≤ 2 * k)) (fun s7 _ => ls.length - (intOf s7).toNat)
        case atStart => exact ⟨0, _, [], Nat.zero_le _, rfl, Q0, Lib.hid (by rw [List.drop_zero, HTL.out]; rfl), Lib.hid (Nat.zero_le _)⟩
        case round =>
          clear Q0
          obtain ⟨k, vl, O, hk, rfl, Q, hap, hol⟩ := hrel
          obtain ⟨wz, hwz⟩ : ∃ wz : World, wz = wr := ⟨_, rfl⟩
          rw [← hwz] at Q ⊢
          clear hwz
          have k0 : (0 : Int) ≤ (k : Int) := Int.natCast_nonneg _
          by_cases hklt : k < ls.length
          · have k1 : (k : Int) < (ls.length : Int) := by omega
            obtain ⟨⟨o, s⟩, hx⟩ : ∃ x, ls[k]? = some x := ⟨_, List.getElem?_eq_getElem hklt⟩
            obtain ⟨ad2, rfl, e0, e1⟩ := Eds.at_ (HRD.out.below Q.out.b) hx
            have HXk := Lib.hid hx
            have hop := HXO.out _ (List.mem_of_getElem? hx)
            simp only at hop e0 e1
            by_cases ho : o = 1
            · subst ho
              have HAP := Lib.hid (show O ++ tlF [] ((1, s) :: ls.drop (k + 1)) = TL by rw [← drop_consP hx]; exact hap.out)
              obtain ⟨A5, c5v, rfl⟩ := own_formP Q.out.l
              obtain ⟨NL, hNL⟩ : ∃ NL, NL = (O).length := ⟨_, rfl⟩
              rw [← hNL] at Q
              have HNL := Lib.hid hNL
              have l2 : NL ≤ 3000 := by have := hol.out; omega
              clear hNL
              clear hx hop hap
              go_upto_region 10 with fail
              have Qa := Lib.hid ((Q.out.alloc (.cells #[.int .i64 1, .string s] 91)).drew)
              have y4 := Q.out.cell
              have y4a := Qa.out.cell
              have HBS := Lib.hid (show M ≤ (wz.alloc (.cells #[.int .i64 1, .string s] 91)).drew.heap.size from Qa.out.ms)
              have HLl := Lib.hid (show wz.ownsRow M 91 2 (.slice A5 NL c5v) NL ((O).flatMap cEd) from by rw [HNL.out]; have := Q.out.l; rw [HNL.out] at this; exact this)
              go_cut [60] (fun _ wy => ∃ (g5 c5 : Nat), Hid (XI w wy X to_ add at_ del (.slice (some ⟨g5, 0, none⟩) (NL + 1) c5) (O ++ [(1, s)]) M u3 vals done))
              case first =>
                go_region_law (first
                  | (refine step_append_lies _ (by rfl) _ _ 30 (by rfl) M 91 i0e (.agg #[.int .i64 0, .string ⟨#[]⟩]) 2 24 Tryd.underlying30 hie he0 he1 he2 rfl (by omega) _ NL ((O).flatMap cEd) (by rfl) ((HLl.out.alloc _).drew) ⟨wz.heap.size, 0, none⟩ 1 1 [.int .i64 1, .string s] (by rfl) (by rfl) (World.news_of_block (cs := #[.int .i64 1, .string s]) (t := 91) (fr := (0, 0)) (heap_alloc_new wz _)) (by simp [Value.oneCell']) (by omega) (by unfold maxLen; omega) (by omega) HBS.out (wz.heap.size + 1) (by simp) ?_; intro g5 c5 w5 hown5 hg5 _ _; have GR := Qa.out.grown HNL.out hg5 hown5; have kc := GR.1; have kz := GR.2.1))
                all_goals
                  have Q6 := Lib.hid GR.2.2
                  clear GR kc kz y4 y4a hown5 hg5
                  go_wp2_with fail
                  go_meet
                  exact ⟨g5, c5, Q6⟩
              case rest =>
                obtain ⟨g5, c5, Q6⟩ := hcut
                clear y4 y4a Qa HBS HLl Q
                clear e0 e1
                go_wp2_with fail
                go_roundw
                case rel => exact ⟨k + 1, _, O ++ [(1, s)], by omega, by go_num, by have := Q6.out; rw [HNL.out] at this; exact Lib.hid (by simpa using this), Lib.hid (by rw [← HAP.out, tlF_keep]; simp), Lib.hid (by have := hol.out; rw [List.length_append]; simp; omega)⟩
                case measure => simp [intOf]; omega
            · have m1 : (o == 1) = false := by simpa using ho
              have HK1 := Lib.hid (show ((o, s) : EdI).1 ≠ 1 from ho)
              have HAP := Lib.hid hap.out
              clear hx hop hap ho e1
              go_upto_region 12 with fail
              clear e0 m1
              go_wp2_with fail
              go_loopw [7] (fun s7 wy => ∃ k2 : Nat, k ≤ k2 ∧ k2 ≤ ls.length ∧ s7 = .int .i64 k2 ∧ Hid (XI w wy X to_ add at_ del vl O M u3 vals done) ∧ Hid (∀ x y, k ≤ x → x < k2 → ls[x]? = some y → y.1 ≠ 1)) (fun s7 _ => ls.length - (intOf s7).toNat)
              case atStart => exact ⟨k, Nat.le_refl _, by omega, rfl, Q, Lib.hid (fun x y h1 h2 => by omega)⟩
              case round =>
                clear Q
                obtain ⟨k2, hk2, hk3, rfl, Q, hrun⟩ := hrel
                obtain ⟨wz, hwz⟩ : ∃ wz : World, wz = wr := ⟨_, rfl⟩
                rw [← hwz] at Q ⊢
                clear hwz
                have k20 : (0 : Int) ≤ (k2 : Int) := Int.natCast_nonneg _
                obtain ⟨g, hg⟩ : ∃ g : Bool, g = (match ls[k2]? with | some y => y.1 != 1 | none => false) := ⟨_, rfl⟩
                go_upto_region 13 with fail
                go_cut [76] (fun s76 wy => s76 = .bool g ∧ wy = wz)
                case first =>
                  by_cases hk2l : k2 < ls.length
                  · have k21 : (k2 : Int) < (ls.length : Int) := by omega
                    obtain ⟨⟨o2, s2⟩, hx2⟩ : ∃ x, ls[k2]? = some x := ⟨_, List.getElem?_eq_getElem hk2l⟩
                    obtain ⟨ad3, had3, e0, _⟩ := Eds.at_ (HRD.out.below Q.out.b) hx2
                    obtain rfl := Option.some.inj had3
                    rw [hx2] at hg
                    simp only at hg e0
                    have HG := Lib.hid hg
                    by_cases ho2 : o2 = 1
                    · have m2 : (o2 != 1) = false := by simpa using ho2
                      clear hg hx2 had3 ho2
                      go_wp2_with fail
                      go_meet
                      exact ⟨by rw [HG.out, m2], rfl⟩
                    · have m2 : (o2 != 1) = true := by simpa using ho2
                      clear hg hx2 had3 ho2
                      go_wp2_with fail
                      go_meet
                      exact ⟨by rw [HG.out, m2], rfl⟩
                  · have hn : ls[k2]? = none := List.getElem?_eq_none (by omega)
                    rw [hn] at hg
                    have HG := Lib.hid hg
                    obtain ⟨kk, hkk⟩ : ∃ kk, kk = ls.length := ⟨_, rfl⟩
                    obtain rfl : k2 = ls.length := by omega
                    clear hg hn hkk
                    go_wp2_with fail
                    go_meet
                    exact ⟨by rw [HG.out], rfl⟩
                case rest =>
                  obtain ⟨rfl, hw1⟩ := hcut
                  rw [hw1]
                  clear hw1 wc
                  have HG := Lib.hid hg
                  cases g with
                  | true =>
                    have hk2l : k2 < ls.length := by
                      rcases Nat.lt_or_ge k2 ls.length with h | h
                      · exact h
                      · rw [List.getElem?_eq_none h] at hg; cases hg
                    have HR2 := Lib.hid (show ∀ x y, k ≤ x → x < k2 + 1 → ls[x]? = some y → y.1 ≠ 1 from fun x y h1 h2 hy => by
                      by_cases e : x = k2
                      · subst e
                        have := HG.out
                        rw [hy] at this
                        simpa using this.symm
                      · exact hrun.out x y h1 (by omega) hy)
                    clear hg HG
                    go_wp2_with fail
                    go_roundw
                    case rel => exact ⟨k2 + 1, by omega, by omega, by go_num, Q, HR2⟩
                    case measure => simp [intOf]; omega
                  | false =>
                    have hkk2 : k < k2 := by
                      rcases Nat.lt_or_ge k k2 with h | h
                      · exact h
                      · have e : k2 = k := by omega
                        rw [e, HXk.out] at hg
                        have := HK1.out
                        simp at hg
                        exact absurd hg this
                    have HREST := Lib.hid (show ∀ e, (ls.drop k2)[0]? = some e → e.1 = 1 from fun e he => by
                      rw [List.getElem?_drop, Nat.add_zero] at he
                      rw [he] at hg
                      simpa using hg)
                    have HRUNO := Lib.hid (show ∀ e ∈ cutE ls k k2, e.1 = 2 ∨ e.1 = 3 from fun e he => by
                      obtain ⟨x, h1, h2, hx⟩ := mem_cutE he
                      have h3 := hrun.out x e h1 h2 hx
                      have h4 := HXO.out e (List.mem_of_getElem? hx)
                      omega)
                    clear hg HG hrun
                    go_upto_region 15 with fail
                    go_wp2_with fail
                    go_loopw [9] (fun s9 wy => ∃ (j : Nat) (vl2 : Value), k ≤ j ∧ j ≤ k2 ∧ s9 = .int .i64 j ∧ Hid (XI w wy X to_ add at_ del vl2 (O ++ turnO (cutE ls k j)) M u3 vals done)) (fun s9 _ => k2 - (intOf s9).toNat)
                    case atStart => exact ⟨k, vl, Nat.le_refl _, by omega, rfl, by rw [show cutE ls k k = [] by unfold cutE; simp, show turnO [] = [] from rfl, List.append_nil]; exact Q⟩
                    case round =>
                      clear Q
                      obtain ⟨j, vl2, hj1, hj2, rfl, Q⟩ := hrel
                      obtain ⟨wq, hwq⟩ : ∃ wq : World, wq = wr := ⟨_, rfl⟩
                      rw [← hwq] at Q ⊢
                      clear hwq
                      have j0 : (0 : Int) ≤ (j : Int) := Int.natCast_nonneg _
                      by_cases hjlt : j < k2
                      · have j1 : (j : Int) < (k2 : Int) := by omega
                        have j2 : (j : Int) < (ls.length : Int) := by omega
                        obtain ⟨⟨o, s⟩, hx2⟩ : ∃ x, ls[j]? = some x := ⟨_, List.getElem?_eq_getElem (by omega)⟩
                        obtain ⟨ad3, had3, e0, e1⟩ := Eds.at_ (HRD.out.below Q.out.b) hx2
                        obtain rfl := Option.some.inj had3
                        simp only at e0 e1
                        have HSN := Lib.hid (cutE_snoc hj1 hx2)
                        clear hx2 had3
                        by_cases ho3 : o = 3
                        · subst ho3
                          have HT := Lib.hid (show turnO (cutE ls k (j + 1)) = turnO (cutE ls k j) ++ [(2, s)] by rw [HSN.out, turnO_snoc]; rfl)
                          obtain ⟨A5, c5v, rfl⟩ := own_formP Q.out.l
                          obtain ⟨NL, hNL⟩ : ∃ NL, NL = (O ++ turnO (cutE ls k j)).length := ⟨_, rfl⟩
                          rw [← hNL] at Q
                          have HNL := Lib.hid hNL
                          have l2 : NL ≤ 3000 := by have h1 := turnO_le (cutE ls k j); have h3 := cutE_len ls (i := k) (j := j) (by omega); have := hol.out; rw [List.length_append] at hNL; omega
                          clear hNL
                          go_upto_region 19 with fail
                          have Qa := Lib.hid ((Q.out.alloc (.cells #[.int .i64 2, .string s] 91)).drew)
                          have y4 := Q.out.cell
                          have y4a := Qa.out.cell
                          have HBS := Lib.hid (show M ≤ (wq.alloc (.cells #[.int .i64 2, .string s] 91)).drew.heap.size from Qa.out.ms)
                          have HLl := Lib.hid (show wq.ownsRow M 91 2 (.slice A5 NL c5v) NL ((O ++ turnO (cutE ls k j)).flatMap cEd) from by rw [HNL.out]; have := Q.out.l; rw [HNL.out] at this; exact this)
                          go_region_law (first
                            | (refine step_append_lies _ (by rfl) _ _ 30 (by rfl) M 91 i0e (.agg #[.int .i64 0, .string ⟨#[]⟩]) 2 24 Tryd.underlying30 hie he0 he1 he2 rfl (by omega) _ NL ((O ++ turnO (cutE ls k j)).flatMap cEd) (by rfl) ((HLl.out.alloc _).drew) ⟨wq.heap.size, 0, none⟩ 1 1 [.int .i64 2, .string s] (by rfl) (by rfl) (World.news_of_block (cs := #[.int .i64 2, .string s]) (t := 91) (fr := (0, 0)) (heap_alloc_new wq _)) (by simp [Value.oneCell']) (by omega) (by unfold maxLen; omega) (by omega) HBS.out (wq.heap.size + 1) (by simp) ?_; intro g5 c5 w5 hown5 hg5 _ _; have GR := Qa.out.grown HNL.out hg5 hown5; have kc := GR.1; have kz := GR.2.1))
                          all_goals
                            have Q6 := Lib.hid GR.2.2
                            clear GR kc kz y4 y4a hown5 hg5
                            clear e0 e1
                            go_wp2_with fail
                            go_roundw
                            case rel => exact ⟨j + 1, _, by omega, by omega, by go_num, by rw [HT.out, ← List.append_assoc]; exact Q6⟩
                            case measure => simp [intOf]; omega
                        · have m3 : (o == 3) = false := by simpa using ho3
                          have HT := Lib.hid (show turnO (cutE ls k (j + 1)) = turnO (cutE ls k j) by rw [HSN.out, turnO_snoc, if_neg (show ¬ ((o, s) : EdI).1 = 3 from ho3), List.append_nil])
                          clear ho3
                          go_wp2_with fail
                          go_roundw
                          case rel => exact ⟨j + 1, vl2, by omega, by omega, by go_num, by rw [HT.out]; exact Q⟩
                          case measure => simp [intOf]; omega
                      · obtain rfl : j = k2 := by omega
                        go_wp2_with fail
                        go_loopw [10] (fun s10 wy => ∃ (j2 : Nat) (vl3 : Value), k ≤ j2 ∧ j2 ≤ j ∧ s10 = .int .i64 j2 ∧ Hid (XI w wy X to_ add at_ del vl3 (O ++ turnO (cutE ls k j) ++ turnA (cutE ls k j2)) M u3 vals done)) (fun s10 _ => j - (intOf s10).toNat)
                        case atStart => exact ⟨k, vl2, Nat.le_refl _, by omega, rfl, by rw [show cutE ls k k = [] by unfold cutE; simp, show turnA [] = [] from rfl, List.append_nil]; exact Q⟩
                        case round =>
                          clear Q
                          obtain ⟨j2, vl3, hj1', hj2', rfl, Q⟩ := hrel
                          obtain ⟨wp, hwp⟩ : ∃ wp : World, wp = wr := ⟨_, rfl⟩
                          rw [← hwp] at Q ⊢
                          clear hwp
                          have j20 : (0 : Int) ≤ (j2 : Int) := Int.natCast_nonneg _
                          by_cases hjlt2 : j2 < j
                          · have j21 : (j2 : Int) < (j : Int) := by omega
                            have j22 : (j2 : Int) < (ls.length : Int) := by omega
                            obtain ⟨⟨o, s⟩, hx2⟩ : ∃ x, ls[j2]? = some x := ⟨_, List.getElem?_eq_getElem (by omega)⟩
                            obtain ⟨ad3, had3, e0, e1⟩ := Eds.at_ (HRD.out.below Q.out.b) hx2
                            obtain rfl := Option.some.inj had3
                            simp only at e0 e1
                            have hop2 := HRUNO.out (o, s) (by rw [show cutE ls k j = cutE ls k j from rfl]; exact mem_cutE_of hj1' hjlt2 hx2)
                            simp only at hop2
                            have HSN := Lib.hid (cutE_snoc hj1' hx2)
                            clear hx2 had3
                            rcases hop2 with rfl | rfl
                            · have HT := Lib.hid (show turnA (cutE ls k (j2 + 1)) = turnA (cutE ls k j2) ++ [(3, s)] by rw [HSN.out, turnA_snoc]; rfl)
                              obtain ⟨A5, c5v, rfl⟩ := own_formP Q.out.l
                              obtain ⟨NL, hNL⟩ : ∃ NL, NL = (O ++ turnO (cutE ls k j) ++ turnA (cutE ls k j2)).length := ⟨_, rfl⟩
                              rw [← hNL] at Q
                              have HNL := Lib.hid hNL
                              have l2 : NL ≤ 3000 := by have h1 := turnO_le (cutE ls k j); have h3 := cutE_len ls (i := k) (j := j) (by omega); have := hol.out; have h5 := turnA_le (cutE ls k j2); have h6 := cutE_len ls (i := k) (j := j2) (by omega); rw [List.length_append, List.length_append] at hNL; omega
                              clear hNL
                              go_upto_region 24 with fail
                              have Qa := Lib.hid ((Q.out.alloc (.cells #[.int .i64 3, .string s] 91)).drew)
                              have y4 := Q.out.cell
                              have y4a := Qa.out.cell
                              have HBS := Lib.hid (show M ≤ (wp.alloc (.cells #[.int .i64 3, .string s] 91)).drew.heap.size from Qa.out.ms)
                              have HLl := Lib.hid (show wp.ownsRow M 91 2 (.slice A5 NL c5v) NL ((O ++ turnO (cutE ls k j) ++ turnA (cutE ls k j2)).flatMap cEd) from by rw [HNL.out]; have := Q.out.l; rw [HNL.out] at this; exact this)
                              go_region_law (first
                                | (refine step_append_lies _ (by rfl) _ _ 30 (by rfl) M 91 i0e (.agg #[.int .i64 0, .string ⟨#[]⟩]) 2 24 Tryd.underlying30 hie he0 he1 he2 rfl (by omega) _ NL ((O ++ turnO (cutE ls k j) ++ turnA (cutE ls k j2)).flatMap cEd) (by rfl) ((HLl.out.alloc _).drew) ⟨wp.heap.size, 0, none⟩ 1 1 [.int .i64 3, .string s] (by rfl) (by rfl) (World.news_of_block (cs := #[.int .i64 3, .string s]) (t := 91) (fr := (0, 0)) (heap_alloc_new wp _)) (by simp [Value.oneCell']) (by omega) (by unfold maxLen; omega) (by omega) HBS.out (wp.heap.size + 1) (by simp) ?_; intro g5 c5 w5 hown5 hg5 _ _; have GR := Qa.out.grown HNL.out hg5 hown5; have kc := GR.1; have kz := GR.2.1))
                              all_goals
                                have Q6 := Lib.hid GR.2.2
                                clear GR kc kz y4 y4a hown5 hg5
                                clear e0 e1
                                go_wp2_with fail
                                go_roundw
                                case rel => exact ⟨j2 + 1, _, by omega, by omega, by go_num, by rw [HT.out, ← List.append_assoc]; exact Q6⟩
                                case measure => simp [intOf]; omega
                            · have HT := Lib.hid (show turnA (cutE ls k (j2 + 1)) = turnA (cutE ls k j2) by rw [HSN.out, turnA_snoc]; exact List.append_nil _)
                              go_wp2_with fail
                              go_roundw
                              case rel => exact ⟨j2 + 1, vl3, by omega, by omega, by go_num, by rw [HT.out]; exact Q⟩
                              case measure => simp [intOf]; omega
                          · obtain rfl : j2 = j := by omega
                            have HQ := Lib.hid (show O ++ turnO (cutE ls k j2) ++ turnA (cutE ls k j2) ++ tlF [] (ls.drop j2) = TL by
                              rw [← HAP.out, ← cutE_drop ls (show k ≤ j2 by omega), tlF_run _ [] _ HRUNO.out HREST.out]
                              simp)
                            have HLN := Lib.hid (show (O ++ turnO (cutE ls k j2) ++ turnA (cutE ls k j2)).length ≤ 2 * j2 by
                              have h1 := turnO_le (cutE ls k j2)
                              have h2 := turnA_le (cutE ls k j2)
                              have h3 := cutE_len ls (i := k) (j := j2) (by omega)
                              have h4 := hol.out
                              rw [List.length_append, List.length_append]
                              omega)
                            go_wp2_with fail
                            go_roundw
                            case rel => exact ⟨j2, vl3, _, by omega, rfl, Q, HQ, HLN⟩
                            case measure => simp [intOf]; omega
          · obtain rfl : k = ls.length := by omega
            have HFIN : Hid (O = TL) := Lib.hid (by have := hap.out; rw [List.drop_length] at this; simpa [tlF] using this)
            obtain ⟨A3, c3v, rfl⟩ := own_formP Q.out.o
            obtain ⟨A5, c5v, rfl⟩ := own_formP Q.out.l
            obtain ⟨NL, hNL⟩ : ∃ NL, NL = O.length := ⟨_, rfl⟩
            obtain ⟨DN, hDN⟩ : ∃ DN, DN = done.length := ⟨_, rfl⟩
            have HOWN := Lib.hid Q.out.o
            have HLL2 := Lib.hid Q.out.l
            have HU := Lib.hid Q.out.u.toV
            have HBB := Lib.hid Q.out.b
            have HBM := Lib.hid Q.out.bm
            have hdn : DN ≤ 1000 := by have := HDL.out; omega
            have HNL := Lib.hid hNL
            have HDN := Lib.hid hDN
            rw [← hDN] at HOWN ⊢
            rw [← hNL] at HLL2
            have hq := Q.out.x
            rw [← hNL] at hq
            have b0 := hq.cell 0
            have b1 := hq.cell 1
            have b2 := hq.cell 2
            have b3 := hq.cell 3
            have b4 := hq.cell 4
            have hown4 := HOWN.out.alloc (.cells #[.int .i64 to_, .int .i64 add, .int .i64 at_, .int .i64 del, .slice A5 NL c5v] 114)
            have hnews := World.news_of_block (cs := #[.int .i64 to_, .int .i64 add, .int .i64 at_, .int .i64 del, .slice A5 NL c5v]) (t := 114) (fr := (0, 0)) (heap_alloc_new wz (.cells #[.int .i64 to_, .int .i64 add, .int .i64 at_, .int .i64 del, .slice A5 NL c5v] 114))
            have hb4 := HBB.out.alloc HBB.out.size (.cells #[.int .i64 to_, .int .i64 add, .int .i64 at_, .int .i64 del, .slice A5 NL c5v] 114)
            have hsz4 := hb4.size
            clear Q hap hol hNL hDN hq
            go_wp2_with (at_builtin; refine wpList_append_lies _ rfl _ _ 53 rfl w.heap.size 114 j0 (.agg #[.int .i64 0, .int .i64 0, .int .i64 0, .int .i64 0, .slice none 0 0]) 5 56 Tryd.underlying53 hj0 hz0 hz1 hz2 rfl (by decide) _ _ _ rfl hown4 ⟨wz.heap.size, 0, none⟩ 1 1 [.int .i64 to_, .int .i64 add, .int .i64 at_, .int .i64 del, .slice A5 NL c5v] rfl rfl hnews (by simp [Value.oneCell']) (by decide) (by unfold maxLen; omega) (by omega) hsz4 (wz.heap.size + 1) (by simp) ?_; intro gg cap w5 hown5 hg5 _ _)
            have HV5 := Lib.hid (HkV.snoc (h := ⟨to_, add, at_, del, O⟩) (vl := .slice A5 NL c5v) (kept_ne ((own2_le (by have := HLL2.out; rw [HNL.out] at this ⊢; exact this) HBM.out).alloc _) hown4 (by decide) hg5) (HU.out.keep fun v n xs hr => kept_ne (hr.alloc _) hown4 (by decide) hg5))
            have HB5 := Lib.hid (hb4.grown hg5 hsz4 (fun z hz => (HOWN.out.lt z hz).1))
            have HO5 := Lib.hid hown5
            clear hnews hown4 hg5 hb4 hown5
            go_roundw
            case rel => exact ⟨i + 1, _, by omega, by go_num, by have := HO5.out; rw [show DN = i from HDN.out.trans HDL.out] at this ⊢; exact Lib.hid this, by
              have := HV5
              rw [take_snocP HF.out, List.map_append, ← HDONE.out]
              show Hid (HkV 91 _ w.heap.size _ (done ++ [⟨to_, add, at_, del, tlF [] ls⟩]))
              rw [← HTL.out, ← HFIN.out]
              exact this, HB5⟩
            case measure => simp [intOf]; omega
    · obtain rfl : i = hs.length := by omega
      have HL : Hid (hs.take hs.length = hs) := Lib.hid (by rw [List.take_length])
      go_wp2
      go_ret
      exact ⟨_, vals, rfl, by rw [List.length_map]; exact hown.out, by rw [HL.out] at hv; exact hv.out, hb.out⟩
end Go.Proofs.YtdpoeagmeiedcaaDoor
