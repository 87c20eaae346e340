/-
  rectolaw14.RowAny: any row: whether it may be, the first file that may not; any file got, put, cut, cleared of: as the document's.
-/
import Derived.Test.YtplleaimmmanhaaGreatDoorG6
import Derived.Test.YtplleaimmmanhaaGreatDoorG4
namespace Go.Proofs.YtplleaimmmanhaaGreatDoor
open Go Go.RowKit

def SmallF (l : List Fl) : Prop := l.length ≤ 80 ∧ ∀ x ∈ l, x.1.size ≤ 100 ∧ x.2.2.size ≤ 5000
theorem SmallF.sized {l : List Fl} (h : SmallF l) : SizedD l := fun x hx => ⟨by have := (h.2 x hx).1; omega, by have := (h.2 x hx).2; omega⟩

set_option maxRecDepth 100000 in
set_option maxHeartbeats 8000000 in
theorem any_walk (w : World) (hE : ErrType w) (v : Value) (l : List Fl) (f : Fl) (h : Reads 3 cF w v l) (hp : f.1.size ≤ 9223372036854775807) (hd : f.2.2.size ≤ 9223372036854775807) :
    Calls Tryz.prog 3 #[v, .agg #[.string f.1, .int .i64 f.2.1, .string f.2.2]] w (YesTo w) := by
  obtain ⟨p, m, d⟩ := f
  simp only at hp hd
  obtain ⟨ZAw, hZAw⟩ : ∃ W, W = World.alloc w (.cells #[.string p, .int .i64 m, .string d] 25) := ⟨_, rfl⟩
  have ZAb : Below w.heap.size w ZAw := by rw [hZAw]; exact (Below.refl _ _).alloc (Nat.le_refl _) _
  obtain ⟨ZAg, hZAg⟩ : ∃ g, g = w.heap.size := ⟨_, rfl⟩
  have ZAk : ZAw.heap[ZAg]? = some (.cells #[.string p, .int .i64 m, .string d] 25 (0, 0)) := by rw [hZAw, hZAg]; exact heap_alloc_new w _
  have ZAl : ZAg < ZAw.heap.size := by rw [hZAw, hZAg]; simp
  have ZA := Lib.hid fun W (hW : Below ZAw.heap.size ZAw W) => (show W.cell? ⟨ZAg, 0, none⟩ = some (.string p) ∧ W.cell? ⟨ZAg, 1, none⟩ = some (.int .i64 m) ∧ W.cell? ⟨ZAg, 2, none⟩ = some (.string d) from
    ⟨cell_of_row W ZAg 0 _ 25 (0, 0) ((hW.block ZAg ZAl).trans ZAk), cell_of_row W ZAg 1 _ 25 (0, 0) ((hW.block ZAg ZAl).trans ZAk), cell_of_row W ZAg 2 _ 25 (0, 0) ((hW.block ZAg ZAl).trans ZAk)⟩)

  have KN := Lib.hid (known_yes ZAw)
  obtain ⟨A, c, rfl⟩ := h.form
  have HA := Lib.hid (h.below ZAb)
  have HE0 := Lib.hid (hE.below ZAb)
  have HF := Lib.hid ZAb
  have hFs := ZAb.size
  clear h ZAk ZAb hE
  go_enter Tryz.func3, Tryz.ntmps3
  go_wp2_with fail
  rw [← hZAw, ← hZAg]
  clear hZAw hZAg
  refine KN.out.mono ?_
  rintro e w1 ⟨rfl, b1⟩
  have C1 := Lib.hid b1
  have RA := Lib.hid (HA.out.below b1)
  have FA := Lib.hid (fewF_any w1 _ l RA.out)
  clear KN HA b1
  go_wp2_with fail
  refine FA.out.mono ?_
  rintro e w2 ⟨ba, rfl, hba, qa, rfl⟩
  have HBA := Lib.hid hba
  clear hba FA
  obtain ⟨w2, hw2⟩ : ∃ w2, w2 = w1.drewN qa := ⟨_, rfl⟩
  have C2 := Lib.hid (show Below ZAw.heap.size ZAw w2 by rw [hw2]; exact below_drewN C1.out qa)
  have RA2 := Lib.hid (show Reads 3 cF w2 (.slice A l.length c) l by rw [hw2]; exact RA.out)
  rw [← hw2]
  obtain ⟨z0, z1, z2⟩ := ZA.out w2 C2.out
  clear hw2 C1 RA
  cases ba with
  | false =>
    go_wp2_with fail
    go_ret
    exact ⟨rfl, HF.out.trans (C2.out.mono hFs)⟩
  | true =>
  have SA := Lib.hid (show SmallF l from HBA.out rfl)
  clear HBA
  by_cases hp1 : 100 < p.size
  · have hpi : (100 : Int) < (p.size : Int) := by omega
    go_wp2_with fail
    go_ret
    exact ⟨rfl, HF.out.trans (C2.out.mono hFs)⟩
  have hpi : ¬ (100 : Int) < (p.size : Int) := by omega
  by_cases hd1 : 300 < d.size
  · have hdi : (300 : Int) < (d.size : Int) := by omega
    go_wp2_with fail
    go_ret
    exact ⟨rfl, HF.out.trans (C2.out.mono hFs)⟩
  have hdi : ¬ (300 : Int) < (d.size : Int) := by omega
  have HPS := Lib.hid (show p.size ≤ 1000000 by omega)
  clear hp1 hd1
  have O1 := Lib.hid (lawOf_any w2 _ l RA2.out (by have := SA.out.1; omega))
  go_wp2_with fail
  clear z0 z1 z2 hpi hdi
  refine O1.out.mono ?_
  rintro e w3 ⟨x, rfl, ox, b3⟩
  have C3 := Lib.hid (C2.out.trans (b3.mono C2.out.size))
  have RA3 := Lib.hid (RA2.out.below b3)
  have RX3 := Lib.hid (Reads.of_own cF_len ox)
  obtain ⟨Ax, cx, rfl⟩ := own_form ox
  have CK := Lib.hid (checkF_any w3 _ l RA3.out SA.out.sized (by have := SA.out.1; omega))
  clear ox b3 O1 RA2 C2
  go_wp2_with fail
  refine CK.out.mono ?_
  rintro e w4 h4
  obtain ⟨ev, hev, b4, hck⟩ : ∃ ev, e = .returned ev ∧ Below w3.heap.size w3 w4 ∧ ((chkF l = none ∧ ev = .nilIface) ∨ ∃ (i : Nat) (k : Int) (F : Nat), chkF l = some (i, k) ∧ ev = .iface 89 (.pointer (some ⟨F, 0, none⟩)) ∧ FaultOf F bFile i k w4) := by
    rcases h4 with ⟨ho, he, hb⟩ | ⟨i, k, F, ho, he, _, hF, hb⟩
    · exact ⟨_, he, hb, .inl ⟨ho, rfl⟩⟩
    · exact ⟨_, he, hb, .inr ⟨i, k, F, ho, rfl, hF⟩⟩
  subst hev
  have HCK := Lib.hid hck
  have C4 := Lib.hid (C3.out.trans (b4.mono C3.out.size))
  have RA4 := Lib.hid (RA3.out.below b4)
  have RX4 := Lib.hid (RX3.out.below b4)
  have CR := Lib.hid (refCheckF_any w4 _ l RX4.out SA.out.sized (by have := SA.out.1; omega))
  clear hck h4 b4 CK RA3 RX3 C3
  go_wp2_with fail
  refine CR.out.mono ?_
  rintro e w5 h5
  obtain ⟨ew0, hew, b5, hcr⟩ : ∃ ew0, e = .returned ew0 ∧ Below w4.heap.size w4 w5 ∧ ((chkF l = none ∧ ew0 = .agg #[.slice none 0 0, .int .i64 0]) ∨ ∃ (i : Nat) (k : Int) (g : Nat), chkF l = some (i, k) ∧ ew0 = wrongG g k ∧ Blk w5 g 95 #[.string bFile, .int .i64 i]) := by
    rcases h5 with ⟨ho, he, hb⟩ | ⟨i, k, g, ho, he, _, hg, hb⟩
    · exact ⟨_, he, hb, .inl ⟨ho, rfl⟩⟩
    · exact ⟨_, he, hb, .inr ⟨i, k, g, ho, rfl, hg⟩⟩
  subst hew
  have C5 := Lib.hid (C4.out.trans (b5.mono C4.out.size))
  have RA5 := Lib.hid (RA4.out.below b5)
  have RX5 := Lib.hid (RX4.out.below b5)
  have TL := Lib.hid (tells_check w5 l ev ew0 (HE0.out.below C5.out) (by
    rcases HCK.out with h | ⟨i, k, F, h1, h2, h3⟩
    · exact .inl h
    · exact .inr ⟨i, k, F, h1, h2, (b5.block F (Array.getElem?_eq_some_iff.1 h3).1).trans h3⟩) hcr)
  clear hcr h5 b5 CR RA4 RX4 C4 HCK
  go_wp2_with fail
  refine TL.out.mono ?_
  rintro e w6 ⟨rfl, b6⟩
  have C6 := Lib.hid (C5.out.trans (b6.mono C5.out.size))
  have RA6 := Lib.hid (RA5.out.below b6)
  have RX6 := Lib.hid (RX5.out.below b6)
  have RS := Lib.hid (rises_any w6 _ l RA6.out (by have := SA.out.1; omega))
  clear b6 TL RA5 RX5 C5
  go_wp2_with fail
  refine RS.out.mono ?_
  rintro e w7 ⟨rb, rfl, hrb, q7, rfl⟩
  have HRB := Lib.hid hrb
  obtain ⟨w7, hw7⟩ : ∃ w7, w7 = w6.drewN q7 := ⟨_, rfl⟩
  have C7 := Lib.hid (show Below ZAw.heap.size ZAw w7 by rw [hw7]; exact below_drewN C6.out q7)
  have RA7 := Lib.hid (show Reads 3 cF w7 (.slice A l.length c) l by rw [hw7]; exact RA6.out)
  have RX7 := Lib.hid (show Reads 3 cF w7 (.slice Ax l.length cx) l by rw [hw7]; exact RX6.out)
  rw [← hw7]
  clear hw7 hrb RS RA6 RX6 C6
  cases rb with
  | false =>
    go_wp2_with fail
    go_ret
    exact ⟨rfl, HF.out.trans (C7.out.mono hFs)⟩
  | true =>
  have RI := Lib.hid (HRB.out.1 rfl)
  clear HRB
  obtain ⟨z0, z1, z2⟩ := ZA.out w7 C7.out
  have hll : l.length ≤ 80 := SA.out.1
  obtain ⟨o, ho⟩ : ∃ o, o = getF l p := ⟨_, rfl⟩
  have GT := Lib.hid (get_any w7 _ l p RA7.out RI.out (by omega))
  rw [← ho] at GT
  unfold Got at GT
  rw [gotV_flZ] at GT
  have HO := Lib.hid ho
  clear ho
  obtain ⟨a, ha⟩ : ∃ a, a = flZ o := ⟨_, rfl⟩
  obtain ⟨ob, hob⟩ : ∃ b, b = o.isSome := ⟨_, rfl⟩
  rw [← ha, ← hob] at GT
  have HFZ := Lib.hid ha
  have HIS := Lib.hid hob
  obtain ⟨a1, a2, a3⟩ := a
  clear ha hob
  go_wp2_with fail
  clear z0 z1 z2
  refine GT.out.mono ?_
  rintro e w8 ⟨rfl, b8⟩
  obtain ⟨XAw, hXAw⟩ : ∃ W, W = World.alloc w8 (.cells #[.string a1, .int .i64 a2, .string a3] 25) := ⟨_, rfl⟩
  have XAb : Below w8.heap.size w8 XAw := by rw [hXAw]; exact (Below.refl _ _).alloc (Nat.le_refl _) _
  obtain ⟨XAg, hXAg⟩ : ∃ g, g = w8.heap.size := ⟨_, rfl⟩
  have XAk : XAw.heap[XAg]? = some (.cells #[.string a1, .int .i64 a2, .string a3] 25 (0, 0)) := by rw [hXAw, hXAg]; exact heap_alloc_new w8 _
  have XAl : XAg < XAw.heap.size := by rw [hXAw, hXAg]; simp
  have XA := Lib.hid fun W (hW : Below XAw.heap.size XAw W) => (show W.cell? ⟨XAg, 0, none⟩ = some (.string a1) ∧ W.cell? ⟨XAg, 1, none⟩ = some (.int .i64 a2) ∧ W.cell? ⟨XAg, 2, none⟩ = some (.string a3) from
    ⟨cell_of_row W XAg 0 _ 25 (0, 0) ((hW.block XAg XAl).trans XAk), cell_of_row W XAg 1 _ 25 (0, 0) ((hW.block XAg XAl).trans XAk), cell_of_row W XAg 2 _ 25 (0, 0) ((hW.block XAg XAl).trans XAk)⟩)

  have C8 := Lib.hid (C7.out.trans ((b8.trans (XAb.mono b8.size)).mono C7.out.size))
  have RA8 := Lib.hid (RA7.out.below (b8.trans (XAb.mono b8.size)))
  have RX8 := Lib.hid (RX7.out.below (b8.trans (XAb.mono b8.size)))
  have RG := Lib.hid (refGet_any XAw _ l p RX8.out (by omega))
  rw [← HO.out] at RG
  unfold Got at RG
  rw [gotV_flZ, ← HFZ.out, ← HIS.out] at RG
  obtain ⟨z0, z1, z2⟩ := ZA.out w8 (C7.out.trans (b8.mono C7.out.size))
  have zz0 := cell_alloc_l (.cells #[.string a1, .int .i64 a2, .string a3] 25) z0
  clear b8 GT RA7 RX7 XAb XAk
  go_wp2_with fail
  rw [← hXAw, ← hXAg]
  clear hXAw hXAg C7
  clear z0 z1 z2 zz0
  refine RG.out.mono ?_
  rintro e w9 ⟨rfl, b9⟩
  have XB := Lib.hid b9
  obtain ⟨YAw, hYAw⟩ : ∃ W, W = World.alloc w9 (.cells #[.string a1, .int .i64 a2, .string a3] 40) := ⟨_, rfl⟩
  have YAb : Below w9.heap.size w9 YAw := by rw [hYAw]; exact (Below.refl _ _).alloc (Nat.le_refl _) _
  obtain ⟨YAg, hYAg⟩ : ∃ g, g = w9.heap.size := ⟨_, rfl⟩
  have YAk : YAw.heap[YAg]? = some (.cells #[.string a1, .int .i64 a2, .string a3] 40 (0, 0)) := by rw [hYAw, hYAg]; exact heap_alloc_new w9 _
  have YAl : YAg < YAw.heap.size := by rw [hYAw, hYAg]; simp
  have YA := Lib.hid fun W (hW : Below YAw.heap.size YAw W) => (show W.cell? ⟨YAg, 0, none⟩ = some (.string a1) ∧ W.cell? ⟨YAg, 1, none⟩ = some (.int .i64 a2) ∧ W.cell? ⟨YAg, 2, none⟩ = some (.string a3) from
    ⟨cell_of_row W YAg 0 _ 40 (0, 0) ((hW.block YAg YAl).trans YAk), cell_of_row W YAg 1 _ 40 (0, 0) ((hW.block YAg YAl).trans YAk), cell_of_row W YAg 2 _ 40 (0, 0) ((hW.block YAg YAl).trans YAk)⟩)

  have C9 := Lib.hid (C8.out.trans ((b9.trans (YAb.mono b9.size)).mono C8.out.size))
  have RA9 := Lib.hid (RA8.out.below (b9.trans (YAb.mono b9.size)))
  have RX9 := Lib.hid (RX8.out.below (b9.trans (YAb.mono b9.size)))
  have XB2 := Lib.hid (b9.trans (YAb.mono b9.size))
  obtain ⟨GGw, hGGw⟩ : ∃ W, W = World.alloc YAw (.cells #[.string p, .int .i64 m, .string d] 40) := ⟨_, rfl⟩
  have GGb : Below YAw.heap.size YAw GGw := by rw [hGGw]; exact (Below.refl _ _).alloc (Nat.le_refl _) _
  obtain ⟨GGg, hGGg⟩ : ∃ g, g = YAw.heap.size := ⟨_, rfl⟩
  have GGk : GGw.heap[GGg]? = some (.cells #[.string p, .int .i64 m, .string d] 40 (0, 0)) := by rw [hGGw, hGGg]; exact heap_alloc_new YAw _
  have GGl : GGg < GGw.heap.size := by rw [hGGw, hGGg]; simp
  have GG := Lib.hid fun W (hW : Below GGw.heap.size GGw W) => (show W.cell? ⟨GGg, 0, none⟩ = some (.string p) ∧ W.cell? ⟨GGg, 1, none⟩ = some (.int .i64 m) ∧ W.cell? ⟨GGg, 2, none⟩ = some (.string d) from
    ⟨cell_of_row W GGg 0 _ 40 (0, 0) ((hW.block GGg GGl).trans GGk), cell_of_row W GGg 1 _ 40 (0, 0) ((hW.block GGg GGl).trans GGk), cell_of_row W GGg 2 _ 40 (0, 0) ((hW.block GGg GGl).trans GGk)⟩)

  have C10 := Lib.hid (C9.out.trans (GGb.mono C9.out.size))
  have RA10 := Lib.hid fun W (hW : Below GGw.heap.size GGw W) => RA9.out.below (GGb.trans (hW.mono GGb.size))
  have RX10 := Lib.hid fun W (hW : Below GGw.heap.size GGw W) => RX9.out.below (GGb.trans (hW.mono GGb.size))
  have ZZ := Lib.hid fun W (hW : Below GGw.heap.size GGw W) => ZA.out W (C10.out.trans (hW.mono C10.out.size))
  obtain ⟨z0, z1, z2⟩ := ZA.out YAw C9.out
  obtain ⟨u0, u1, u2⟩ := ZZ.out GGw (Below.refl _ _)
  obtain ⟨x0, x1, x2⟩ := XA.out GGw (XB2.out.trans (GGb.mono XB2.out.size))
  obtain ⟨y0, y1, y2⟩ := YA.out GGw GGb
  have hGGq : GGg = w9.heap.size + 1 := by rw [hGGg, hYAw]; simp
  rw [hYAw] at z0 z1 z2
  rw [hGGw, hYAw] at x0 x1 x2 u0 u1 u2
  rw [hGGw, hYAw, hYAg] at y0 y1 y2
  have lN := Lib.hid hll
  have PU := Lib.hid fun W (hW : Below GGw.heap.size GGw W) => put_any W _ l (p, m, d) (RA10.out W hW) RI.out (by omega)
  have CU := Lib.hid fun W (hW : Below GGw.heap.size GGw W) => cut_any W _ l p (RA10.out W hW) SA.out.sized.paths (by omega)
  have CL := Lib.hid fun W (hW : Below GGw.heap.size GGw W) => clear_any W _ l p (RA10.out W hW) SA.out.sized.paths HPS.out (by omega)
  have RPU := Lib.hid fun W (hW : Below GGw.heap.size GGw W) => refPutF_any W _ l p m d (RX10.out W hW) RI.out (by omega)
  have RCU := Lib.hid fun W (hW : Below GGw.heap.size GGw W) => refCut_any W _ l p (RX10.out W hW) (by omega)
  have RCL := Lib.hid fun W (hW : Below GGw.heap.size GGw W) => refClear_any W _ l p (RX10.out W hW) SA.out.sized.paths HPS.out (by omega)
  obtain ⟨lp, hlp⟩ : ∃ q, q = putF l (p, m, d) := ⟨_, rfl⟩
  obtain ⟨lc, hlc⟩ : ∃ q, q = cutF l p := ⟨_, rfl⟩
  obtain ⟨le, hle⟩ : ∃ q, q = clearF l p := ⟨_, rfl⟩
  have lpN := Lib.hid (show lp.length ≤ 81 by rw [hlp]; exact Nat.le_trans (put_len _ _) (by omega))
  have lcN := Lib.hid (show lc.length ≤ 80 by rw [hlc]; exact Nat.le_trans (cut_len _ _) (by omega))
  have leN := Lib.hid (show le.length ≤ 80 by rw [hle]; exact Nat.le_trans (List.length_filter_le _ _) (by omega))
  rw [← hlp] at PU RPU
  rw [← hlc] at CU RCU
  rw [← hle] at CL RCL
  have XX := Lib.hid fun W (hW : Below GGw.heap.size GGw W) => XA.out W ((XB2.out.trans (GGb.mono XB2.out.size)).trans (hW.mono (XB2.out.trans (GGb.mono XB2.out.size)).size))
  have YY := Lib.hid fun W (hW : Below GGw.heap.size GGw W) => YA.out W (GGb.trans (hW.mono GGb.size))
  clear hlp hlc hle b9 RA8 RX8 RA9 RX9 YAb YAk GGb GGk RG
  go_wp2_with fail
  rw [← hYAw, ← hGGw, ← hGGq, ← hYAg]
  clear hYAw hGGw hYAg hGGg hGGq z0 z1 z2 x0 x1 x2 u0 u1 u2 y0 y1 y2
  have HSS : Hid (∀ W, Below GGw.heap.size GGw W → (fun w' => (w'.cell? ⟨ZAg, 0, none⟩ = some (.string p) ∧ w'.cell? ⟨ZAg, 1, none⟩ = some (.int .i64 m) ∧ w'.cell? ⟨ZAg, 2, none⟩ = some (.string d)) ∧ (w'.cell? ⟨XAg, 0, none⟩ = some (.string a1) ∧ w'.cell? ⟨XAg, 1, none⟩ = some (.int .i64 a2) ∧ w'.cell? ⟨XAg, 2, none⟩ = some (.string a3)) ∧ (w'.cell? ⟨YAg, 0, none⟩ = some (.string a1) ∧ w'.cell? ⟨YAg, 1, none⟩ = some (.int .i64 a2) ∧ w'.cell? ⟨YAg, 2, none⟩ = some (.string a3)) ∧ (w'.cell? ⟨GGg, 0, none⟩ = some (.string p) ∧ w'.cell? ⟨GGg, 1, none⟩ = some (.int .i64 m) ∧ w'.cell? ⟨GGg, 2, none⟩ = some (.string d))) W) := Lib.hid fun W hW => ⟨ZZ.out W hW, XX.out W hW, YY.out W hW, GG.out W hW⟩
  have BZ0 := Lib.hid ((Below.refl GGw.heap.size GGw).drew)
  have HFIRST := HSS.out GGw.drew BZ0.out
  obtain ⟨⟨z0, z1, z2⟩, ⟨x0, x1, x2⟩, ⟨y0, y1, y2⟩, ⟨g0, g1, g2⟩⟩ := HFIRST
  refine wp_region_held_drew (S := fun w' => (w'.cell? ⟨ZAg, 0, none⟩ = some (.string p) ∧ w'.cell? ⟨ZAg, 1, none⟩ = some (.int .i64 m) ∧ w'.cell? ⟨ZAg, 2, none⟩ = some (.string d)) ∧ (w'.cell? ⟨XAg, 0, none⟩ = some (.string a1) ∧ w'.cell? ⟨XAg, 1, none⟩ = some (.int .i64 a2) ∧ w'.cell? ⟨XAg, 2, none⟩ = some (.string a3)) ∧ (w'.cell? ⟨YAg, 0, none⟩ = some (.string a1) ∧ w'.cell? ⟨YAg, 1, none⟩ = some (.int .i64 a2) ∧ w'.cell? ⟨YAg, 2, none⟩ = some (.string a3)) ∧ (w'.cell? ⟨GGg, 0, none⟩ = some (.string p) ∧ w'.cell? ⟨GGg, 1, none⟩ = some (.int .i64 m) ∧ w'.cell? ⟨GGg, 2, none⟩ = some (.string d))) (by kernel_rfl) (HSS.out _ BZ0.out) (fun hHeld => ?_)
  refine wpAnyH_take (i := 0) (oi := { dst := some 60, op := Op.move (Operand.tmp 7), type := 4, pos := "law.go:80", after := #[], guard := none }) (v := ?vk0) rfl (by kernel_rfl) (by kernel_rfl) (by kernel_rfl) (fun _ _ _ h => h) (Or.inl ⟨by rfl, ?yk0⟩) (by assumption) ?rk0
  case yk0 => (intro w' hSw; (try dsimp only at hSw); go_simp; try with_reducible rfl)
  try simp only [Act.put, List.setIfInBounds_toArray, List.set_cons_zero, List.set_cons_succ]
  refine wpAnyH_take (i := 1) (oi := { dst := some 61, op := Op.move (Operand.tmp 9), type := 4, pos := "law.go:80", after := #[], guard := none }) (v := ?vk1) rfl (by kernel_rfl) (by kernel_rfl) (by kernel_rfl) (fun _ _ _ h => h) (Or.inl ⟨by rfl, ?yk1⟩) (by assumption) ?rk1
  case yk1 => (intro w' hSw; (try dsimp only at hSw); go_simp; try with_reducible rfl)
  try simp only [Act.put, List.setIfInBounds_toArray, List.set_cons_zero, List.set_cons_succ]
  refine wpAnyH_take (i := 2) (oi := { dst := some 62, op := Op.binOp BinOp.eql 4 (Operand.tmp 60) (Operand.tmp 61) 4, type := 4, pos := "law.go:80", after := #[{ on := 0, ground := Ground.data }, { on := 1, ground := Ground.data }], guard := none }) (v := ?vk2) rfl (by kernel_rfl) (by kernel_rfl) (by kernel_rfl) (fun _ _ _ h => h) (Or.inl ⟨by rfl, ?yk2⟩) (by assumption) ?rk2
  case yk2 => (intro w' hSw; (try dsimp only at hSw); go_simp; try with_reducible rfl)
  try simp only [Act.put, List.setIfInBounds_toArray, List.set_cons_zero, List.set_cons_succ]
  refine wpAnyH_take (i := 3) (oi := { dst := some 63, op := Op.move (Operand.tmp 62), type := 4, pos := "law.go:80", after := #[{ on := 2, ground := Ground.data }], guard := none }) (v := ?vk3) rfl (by kernel_rfl) (by kernel_rfl) (by kernel_rfl) (fun _ _ _ h => h) (Or.inl ⟨by rfl, ?yk3⟩) (by assumption) ?rk3
  case yk3 => (intro w' hSw; (try dsimp only at hSw); go_simp; try with_reducible rfl)
  try simp only [Act.put, List.setIfInBounds_toArray, List.set_cons_zero, List.set_cons_succ]
  refine wpAnyH_take (i := 4) (oi := { dst := some 64, op := Op.fieldAddr 25 (Operand.tmp 6) 0, type := 0, pos := "law.go:80", after := #[{ on := 3, ground := Ground.guard }], guard := some (3, true) }) (v := ?vk4) rfl (by kernel_rfl) (by kernel_rfl) (by kernel_rfl) (fun _ _ _ h => h) (Or.inl ⟨by rfl, ?yk4⟩) (by assumption) ?rk4
  case yk4 => (intro w' hSw; (try dsimp only at hSw); go_simp; try with_reducible rfl)
  try simp only [Act.put, List.setIfInBounds_toArray, List.set_cons_zero, List.set_cons_succ]
  refine wpAnyH_take (i := 5) (oi := { dst := some 65, op := Op.load 9 (Operand.tmp 64), type := 9, pos := "law.go:80", after := #[{ on := 4, ground := Ground.data }, { on := 3, ground := Ground.guard }], guard := some (3, true) }) (v := ?vk5) rfl (by kernel_rfl) (by kernel_rfl) (by kernel_rfl) (fun _ _ _ h => h) (Or.inl ⟨by rfl, ?yk5⟩) (by assumption) ?rk5
  case yk5 => (intro w' hSw; (try dsimp only at hSw); go_simp; try with_reducible rfl)
  try simp only [Act.put, List.setIfInBounds_toArray, List.set_cons_zero, List.set_cons_succ]
  refine wpAnyH_take (i := 6) (oi := { dst := some 66, op := Op.fieldAddr 40 (Operand.tmp 8) 0, type := 0, pos := "law.go:80", after := #[{ on := 3, ground := Ground.guard }], guard := some (3, true) }) (v := ?vk6) rfl (by kernel_rfl) (by kernel_rfl) (by kernel_rfl) (fun _ _ _ h => h) (Or.inl ⟨by rfl, ?yk6⟩) (by assumption) ?rk6
  case yk6 => (intro w' hSw; (try dsimp only at hSw); go_simp; try with_reducible rfl)
  try simp only [Act.put, List.setIfInBounds_toArray, List.set_cons_zero, List.set_cons_succ]
  refine wpAnyH_take (i := 7) (oi := { dst := some 67, op := Op.load 9 (Operand.tmp 66), type := 9, pos := "law.go:80", after := #[{ on := 6, ground := Ground.data }, { on := 3, ground := Ground.guard }], guard := some (3, true) }) (v := ?vk7) rfl (by kernel_rfl) (by kernel_rfl) (by kernel_rfl) (fun _ _ _ h => h) (Or.inl ⟨by rfl, ?yk7⟩) (by assumption) ?rk7
  case yk7 => (intro w' hSw; (try dsimp only at hSw); go_simp; try with_reducible rfl)
  try simp only [Act.put, List.setIfInBounds_toArray, List.set_cons_zero, List.set_cons_succ]
  refine wpAnyH_take (i := 8) (oi := { dst := some 68, op := Op.binOp BinOp.eql 9 (Operand.tmp 65) (Operand.tmp 67) 9, type := 4, pos := "law.go:80", after := #[{ on := 5, ground := Ground.data }, { on := 7, ground := Ground.data }, { on := 3, ground := Ground.guard }], guard := some (3, true) }) (v := ?vk8) rfl (by kernel_rfl) (by kernel_rfl) (by kernel_rfl) (fun _ _ _ h => h) (Or.inl ⟨by rfl, ?yk8⟩) (by assumption) ?rk8
  case yk8 => (intro w' hSw; (try dsimp only at hSw); go_simp; try with_reducible rfl)
  try simp only [Act.put, List.setIfInBounds_toArray, List.set_cons_zero, List.set_cons_succ]
  refine wpAnyH_take (i := 9) (oi := { dst := some 69, op := Op.pick (Operand.tmp 63) (Operand.tmp 68) (Operand.const (Value.bool false)), type := 4, pos := "law.go:80", after := #[{ on := 3, ground := Ground.data }, { on := 8, ground := Ground.data }], guard := none }) (v := ?vk9) rfl (by kernel_rfl) (by kernel_rfl) (by kernel_rfl) (fun _ _ _ h => h) (Or.inl ⟨by rfl, ?yk9⟩) (by assumption) ?rk9
  case yk9 => (intro w' hSw; (try dsimp only at hSw); go_simp; try with_reducible rfl)
  try simp only [Act.put, List.setIfInBounds_toArray, List.set_cons_zero, List.set_cons_succ]
  refine wpAnyH_take (i := 10) (oi := { dst := some 70, op := Op.move (Operand.tmp 69), type := 4, pos := "law.go:80", after := #[{ on := 9, ground := Ground.data }, { on := 3, ground := Ground.chain }], guard := none }) (v := ?vk10) rfl (by kernel_rfl) (by kernel_rfl) (by kernel_rfl) (fun _ _ _ h => h) (Or.inl ⟨by rfl, ?yk10⟩) (by assumption) ?rk10
  case yk10 => (intro w' hSw; (try dsimp only at hSw); go_simp; try with_reducible rfl)
  try simp only [Act.put, List.setIfInBounds_toArray, List.set_cons_zero, List.set_cons_succ]
  refine wpAnyH_take (i := 11) (oi := { dst := some 71, op := Op.fieldAddr 25 (Operand.tmp 6) 1, type := 0, pos := "law.go:80", after := #[{ on := 10, ground := Ground.guard }], guard := some (10, true) }) (v := ?vk11) rfl (by kernel_rfl) (by kernel_rfl) (by kernel_rfl) (fun _ _ _ h => h) (Or.inl ⟨by rfl, ?yk11⟩) (by assumption) ?rk11
  case yk11 => (intro w' hSw; (try dsimp only at hSw); go_simp; try with_reducible rfl)
  try simp only [Act.put, List.setIfInBounds_toArray, List.set_cons_zero, List.set_cons_succ]
  refine wpAnyH_take (i := 12) (oi := { dst := some 72, op := Op.load 3 (Operand.tmp 71), type := 3, pos := "law.go:80", after := #[{ on := 11, ground := Ground.data }, { on := 10, ground := Ground.guard }], guard := some (10, true) }) (v := ?vk12) rfl (by kernel_rfl) (by kernel_rfl) (by kernel_rfl) (fun _ _ _ h => h) (Or.inl ⟨by rfl, ?yk12⟩) (by assumption) ?rk12
  case yk12 => (intro w' hSw; (try dsimp only at hSw); go_simp; try with_reducible rfl)
  try simp only [Act.put, List.setIfInBounds_toArray, List.set_cons_zero, List.set_cons_succ]
  refine wpAnyH_take (i := 13) (oi := { dst := some 73, op := Op.fieldAddr 40 (Operand.tmp 8) 1, type := 0, pos := "law.go:80", after := #[{ on := 10, ground := Ground.guard }], guard := some (10, true) }) (v := ?vk13) rfl (by kernel_rfl) (by kernel_rfl) (by kernel_rfl) (fun _ _ _ h => h) (Or.inl ⟨by rfl, ?yk13⟩) (by assumption) ?rk13
  case yk13 => (intro w' hSw; (try dsimp only at hSw); go_simp; try with_reducible rfl)
  try simp only [Act.put, List.setIfInBounds_toArray, List.set_cons_zero, List.set_cons_succ]
  refine wpAnyH_take (i := 14) (oi := { dst := some 74, op := Op.load 3 (Operand.tmp 73), type := 3, pos := "law.go:80", after := #[{ on := 13, ground := Ground.data }, { on := 10, ground := Ground.guard }], guard := some (10, true) }) (v := ?vk14) rfl (by kernel_rfl) (by kernel_rfl) (by kernel_rfl) (fun _ _ _ h => h) (Or.inl ⟨by rfl, ?yk14⟩) (by assumption) ?rk14
  case yk14 => (intro w' hSw; (try dsimp only at hSw); go_simp; try with_reducible rfl)
  try simp only [Act.put, List.setIfInBounds_toArray, List.set_cons_zero, List.set_cons_succ]
  refine wpAnyH_take (i := 15) (oi := { dst := some 75, op := Op.binOp BinOp.eql 3 (Operand.tmp 72) (Operand.tmp 74) 3, type := 4, pos := "law.go:80", after := #[{ on := 12, ground := Ground.data }, { on := 14, ground := Ground.data }, { on := 10, ground := Ground.guard }], guard := some (10, true) }) (v := ?vk15) rfl (by kernel_rfl) (by kernel_rfl) (by kernel_rfl) (fun _ _ _ h => h) (Or.inl ⟨by rfl, ?yk15⟩) (by assumption) ?rk15
  case yk15 => (intro w' hSw; (try dsimp only at hSw); go_simp; try with_reducible rfl)
  try simp only [Act.put, List.setIfInBounds_toArray, List.set_cons_zero, List.set_cons_succ]
  refine wpAnyH_take (i := 16) (oi := { dst := some 76, op := Op.pick (Operand.tmp 70) (Operand.tmp 75) (Operand.const (Value.bool false)), type := 4, pos := "law.go:80", after := #[{ on := 10, ground := Ground.data }, { on := 15, ground := Ground.data }], guard := none }) (v := ?vk16) rfl (by kernel_rfl) (by kernel_rfl) (by kernel_rfl) (fun _ _ _ h => h) (Or.inl ⟨by rfl, ?yk16⟩) (by assumption) ?rk16
  case yk16 => (intro w' hSw; (try dsimp only at hSw); go_simp; try with_reducible rfl)
  try simp only [Act.put, List.setIfInBounds_toArray, List.set_cons_zero, List.set_cons_succ]
  refine wpAnyH_take (i := 17) (oi := { dst := some 77, op := Op.move (Operand.tmp 76), type := 4, pos := "law.go:80", after := #[{ on := 16, ground := Ground.data }, { on := 10, ground := Ground.chain }], guard := none }) (v := ?vk17) rfl (by kernel_rfl) (by kernel_rfl) (by kernel_rfl) (fun _ _ _ h => h) (Or.inl ⟨by rfl, ?yk17⟩) (by assumption) ?rk17
  case yk17 => (intro w' hSw; (try dsimp only at hSw); go_simp; try with_reducible rfl)
  try simp only [Act.put, List.setIfInBounds_toArray, List.set_cons_zero, List.set_cons_succ]
  refine wpAnyH_take (i := 18) (oi := { dst := some 78, op := Op.fieldAddr 25 (Operand.tmp 6) 2, type := 0, pos := "law.go:80", after := #[{ on := 17, ground := Ground.guard }], guard := some (17, true) }) (v := ?vk18) rfl (by kernel_rfl) (by kernel_rfl) (by kernel_rfl) (fun _ _ _ h => h) (Or.inl ⟨by rfl, ?yk18⟩) (by assumption) ?rk18
  case yk18 => (intro w' hSw; (try dsimp only at hSw); go_simp; try with_reducible rfl)
  try simp only [Act.put, List.setIfInBounds_toArray, List.set_cons_zero, List.set_cons_succ]
  refine wpAnyH_take (i := 19) (oi := { dst := some 79, op := Op.load 9 (Operand.tmp 78), type := 9, pos := "law.go:80", after := #[{ on := 18, ground := Ground.data }, { on := 17, ground := Ground.guard }], guard := some (17, true) }) (v := ?vk19) rfl (by kernel_rfl) (by kernel_rfl) (by kernel_rfl) (fun _ _ _ h => h) (Or.inl ⟨by rfl, ?yk19⟩) (by assumption) ?rk19
  case yk19 => (intro w' hSw; (try dsimp only at hSw); go_simp; try with_reducible rfl)
  try simp only [Act.put, List.setIfInBounds_toArray, List.set_cons_zero, List.set_cons_succ]
  refine wpAnyH_take (i := 20) (oi := { dst := some 80, op := Op.fieldAddr 40 (Operand.tmp 8) 2, type := 0, pos := "law.go:80", after := #[{ on := 17, ground := Ground.guard }], guard := some (17, true) }) (v := ?vk20) rfl (by kernel_rfl) (by kernel_rfl) (by kernel_rfl) (fun _ _ _ h => h) (Or.inl ⟨by rfl, ?yk20⟩) (by assumption) ?rk20
  case yk20 => (intro w' hSw; (try dsimp only at hSw); go_simp; try with_reducible rfl)
  try simp only [Act.put, List.setIfInBounds_toArray, List.set_cons_zero, List.set_cons_succ]
  refine wpAnyH_take (i := 21) (oi := { dst := some 81, op := Op.load 9 (Operand.tmp 80), type := 9, pos := "law.go:80", after := #[{ on := 20, ground := Ground.data }, { on := 17, ground := Ground.guard }], guard := some (17, true) }) (v := ?vk21) rfl (by kernel_rfl) (by kernel_rfl) (by kernel_rfl) (fun _ _ _ h => h) (Or.inl ⟨by rfl, ?yk21⟩) (by assumption) ?rk21
  case yk21 => (intro w' hSw; (try dsimp only at hSw); go_simp; try with_reducible rfl)
  try simp only [Act.put, List.setIfInBounds_toArray, List.set_cons_zero, List.set_cons_succ]
  refine wpAnyH_take (i := 22) (oi := { dst := some 82, op := Op.binOp BinOp.eql 9 (Operand.tmp 79) (Operand.tmp 81) 9, type := 4, pos := "law.go:80", after := #[{ on := 19, ground := Ground.data }, { on := 21, ground := Ground.data }, { on := 17, ground := Ground.guard }], guard := some (17, true) }) (v := ?vk22) rfl (by kernel_rfl) (by kernel_rfl) (by kernel_rfl) (fun _ _ _ h => h) (Or.inl ⟨by rfl, ?yk22⟩) (by assumption) ?rk22
  case yk22 => (intro w' hSw; (try dsimp only at hSw); go_simp; try with_reducible rfl)
  try simp only [Act.put, List.setIfInBounds_toArray, List.set_cons_zero, List.set_cons_succ]
  refine wpAnyH_take (i := 23) (oi := { dst := some 83, op := Op.pick (Operand.tmp 77) (Operand.tmp 82) (Operand.const (Value.bool false)), type := 4, pos := "law.go:80", after := #[{ on := 17, ground := Ground.data }, { on := 22, ground := Ground.data }], guard := none }) (v := ?vk23) rfl (by kernel_rfl) (by kernel_rfl) (by kernel_rfl) (fun _ _ _ h => h) (Or.inl ⟨by rfl, ?yk23⟩) (by assumption) ?rk23
  case yk23 => (intro w' hSw; (try dsimp only at hSw); go_simp; try with_reducible rfl)
  try simp only [Act.put, List.setIfInBounds_toArray, List.set_cons_zero, List.set_cons_succ]
  refine wpAnyH_take (i := 24) (oi := { dst := some 84, op := Op.move (Operand.tmp 83), type := 4, pos := "law.go:80", after := #[{ on := 23, ground := Ground.data }, { on := 17, ground := Ground.chain }], guard := none }) (v := ?vk24) rfl (by kernel_rfl) (by kernel_rfl) (by kernel_rfl) (fun _ _ _ h => h) (Or.inl ⟨by rfl, ?yk24⟩) (by assumption) ?rk24
  case yk24 => (intro w' hSw; (try dsimp only at hSw); go_simp; try with_reducible rfl)
  try simp only [Act.put, List.setIfInBounds_toArray, List.set_cons_zero, List.set_cons_succ]
  refine wpAnyH_take (i := 25) (oi := { dst := some 85, op := Op.move (Operand.tmp 0), type := 23, pos := "law.go:80", after := #[{ on := 24, ground := Ground.guard }], guard := some (24, true) }) (v := ?vk25) rfl (by kernel_rfl) (by kernel_rfl) (by kernel_rfl) (fun _ _ _ h => h) (Or.inl ⟨by rfl, ?yk25⟩) (by assumption) ?rk25
  case yk25 => (intro w' hSw; (try dsimp only at hSw); go_simp; try with_reducible rfl)
  try simp only [Act.put, List.setIfInBounds_toArray, List.set_cons_zero, List.set_cons_succ]
  refine wpAnyH_take (i := 26) (oi := { dst := some 86, op := Op.load 25 (Operand.tmp 3), type := 25, pos := "law.go:80", after := #[{ on := 24, ground := Ground.guard }], guard := some (24, true) }) (v := ?vk26) rfl (by kernel_rfl) (by kernel_rfl) (by kernel_rfl) (fun _ _ _ h => h) (Or.inl ⟨by rfl, ?yk26⟩) (by assumption) ?rk26
  case yk26 => (intro w' hSw; (try dsimp only at hSw); go_simp; try with_reducible rfl)
  try simp only [Act.put, List.setIfInBounds_toArray, List.set_cons_zero, List.set_cons_succ]
  refine wpAnyH_take (i := 29) (oi := { dst := some 89, op := Op.move (Operand.tmp 5), type := 28, pos := "law.go:80", after := #[{ on := 24, ground := Ground.guard }], guard := some (24, true) }) (v := ?vk29) rfl (by kernel_rfl) (by kernel_rfl) (by kernel_rfl) (fun _ _ _ h => h) (Or.inl ⟨by rfl, ?yk29⟩) (by assumption) ?rk29
  case yk29 => (intro w' hSw; (try dsimp only at hSw); go_simp; try with_reducible rfl)
  try simp only [Act.put, List.setIfInBounds_toArray, List.set_cons_zero, List.set_cons_succ]
  refine wpAnyH_take (i := 30) (oi := { dst := some 90, op := Op.load 40 (Operand.tmp 10), type := 40, pos := "law.go:80", after := #[{ on := 24, ground := Ground.guard }], guard := some (24, true) }) (v := ?vk30) rfl (by kernel_rfl) (by kernel_rfl) (by kernel_rfl) (fun _ _ _ h => h) (Or.inl ⟨by rfl, ?yk30⟩) (by assumption) ?rk30
  case yk30 => (intro w' hSw; (try dsimp only at hSw); go_simp; try with_reducible rfl)
  try simp only [Act.put, List.setIfInBounds_toArray, List.set_cons_zero, List.set_cons_succ]
  refine wpAnyH_ready (rs := [27]) (by kernel_rfl) (by simp) ?_
  refine AllReadyH.cons (o := { dst := some 87, op := Op.call { callee := Callee.value (Operand.func 17), args := #[Operand.tmp 85, Operand.tmp 86], argTypes := #[23, 25] }, type := 23, pos := "law.go:80", after := #[{ on := 25, ground := Ground.data }, { on := 26, ground := Ground.data }, { on := 24, ground := Ground.chain }, { on := 24, ground := Ground.guard }], guard := some (24, true) }) rfl (fun K hK => ?_) AllReadyH.nil
  go_simp
  refine (PU.out _ BZ0.out).mono ?_
  rintro e wa0 ⟨va, rfl, oa, ba⟩
  have ra0 := Lib.hid (Reads.of_own cF_len oa)
  have BA0 := Lib.hid (BZ0.out.trans (ba.mono BZ0.out.size))
  obtain ⟨Aa0, ca0, rfl⟩ := ra0.out.form
  have OF0 := Lib.hid (lawOf_any wa0 _ lp ra0.out (by have := lpN.out; omega))
  clear oa ba
  go_wp2_with fail
  refine hK.out _ _ (HSS.out _ BA0.out) (fun hHeldk27 => ?_)
  clear hK K hHeld
  try simp only [Act.put, List.setIfInBounds_toArray, List.set_cons_zero, List.set_cons_succ]
  refine wpAnyH_ready (rs := [28]) (by kernel_rfl) (by simp) ?_
  refine AllReadyH.cons (o := { dst := some 88, op := Op.call { callee := Callee.value (Operand.func 9), args := #[Operand.tmp 87], argTypes := #[23] }, type := 28, pos := "law.go:80", after := #[{ on := 27, ground := Ground.data }, { on := 27, ground := Ground.chain }, { on := 24, ground := Ground.guard }], guard := some (24, true) }) rfl (fun K hK => ?_) AllReadyH.nil
  go_simp
  refine OF0.out.mono ?_
  rintro e wb0 ⟨vb, rfl, ob, bb⟩
  have BB0 := Lib.hid (BA0.out.trans (bb.mono BA0.out.size))
  have RB0 := Lib.hid (Reads.of_own cF_len ob)
  obtain ⟨Ab0, cb0, rfl⟩ := own_form ob
  clear ob bb OF0 ra0
  go_wp2_with fail
  refine hK.out _ _ (HSS.out _ BB0.out) (fun hHeldk28 => ?_)
  clear hK K hHeldk27
  try simp only [Act.put, List.setIfInBounds_toArray, List.set_cons_zero, List.set_cons_succ]
  refine wpAnyH_ready (rs := [31]) (by kernel_rfl) (by simp) ?_
  refine AllReadyH.cons (o := { dst := some 91, op := Op.call { callee := Callee.value (Operand.func 18), args := #[Operand.tmp 89, Operand.tmp 90], argTypes := #[28, 40] }, type := 28, pos := "law.go:80", after := #[{ on := 29, ground := Ground.data }, { on := 30, ground := Ground.data }, { on := 28, ground := Ground.chain }, { on := 24, ground := Ground.guard }], guard := some (24, true) }) rfl (fun K hK => ?_) AllReadyH.nil
  go_simp
  refine (RPU.out _ BB0.out).mono ?_
  rintro e wc0 ⟨vc, rfl, oc, bc⟩
  have BC0 := Lib.hid (BB0.out.trans (bc.mono BB0.out.size))
  have SM0 := Lib.hid (refSame_any wc0 _ vc lp lp (RB0.out.below bc) (Reads.of_own cF_len oc))
  obtain ⟨Ac0, cc0, rfl⟩ := own_form oc
  simp only [decide_true] at SM0
  clear oc bc
  go_wp2_with fail
  refine hK.out _ _ (HSS.out _ BC0.out) (fun hHeldk31 => ?_)
  clear hK K hHeldk28
  try simp only [Act.put, List.setIfInBounds_toArray, List.set_cons_zero, List.set_cons_succ]
  refine wpAnyH_ready (rs := [32]) (by kernel_rfl) (by simp) ?_
  refine AllReadyH.cons (o := { dst := some 92, op := Op.call { callee := Callee.value (Operand.func 16), args := #[Operand.tmp 88, Operand.tmp 91], argTypes := #[28, 28] }, type := 4, pos := "law.go:80", after := #[{ on := 28, ground := Ground.data }, { on := 31, ground := Ground.data }, { on := 31, ground := Ground.chain }, { on := 24, ground := Ground.guard }], guard := some (24, true) }) rfl (fun K hK => ?_) AllReadyH.nil
  go_simp
  refine SM0.out.mono ?_
  rintro e wd ⟨rfl, q0, rfl⟩
  obtain ⟨wz1, hwz⟩ : ∃ wz, wz = wc0.drewN q0 := ⟨_, rfl⟩
  have BZ1 := Lib.hid (show Below GGw.heap.size GGw wz1 by rw [hwz]; exact below_drewN BC0.out _)
  rw [← hwz]
  clear hwz
  go_wp2_with fail
  refine hK.out _ _ (HSS.out _ BZ1.out) (fun hHeldk32 => ?_)
  clear hK K hHeldk31
  try simp only [Act.put, List.setIfInBounds_toArray, List.set_cons_zero, List.set_cons_succ]
  refine wpAnyH_take (i := 33) (oi := { dst := some 93, op := Op.pick (Operand.tmp 84) (Operand.tmp 92) (Operand.const (Value.bool false)), type := 4, pos := "law.go:80", after := #[{ on := 24, ground := Ground.data }, { on := 32, ground := Ground.data }], guard := none }) (v := ?vk33) rfl (by kernel_rfl) (by kernel_rfl) (by kernel_rfl) (fun _ _ _ h => h) (Or.inl ⟨by rfl, ?yk33⟩) (by assumption) ?rk33
  case yk33 => (intro w' hSw; (try dsimp only at hSw); go_simp; try with_reducible rfl)
  try simp only [Act.put, List.setIfInBounds_toArray, List.set_cons_zero, List.set_cons_succ]
  refine wpAnyH_take (i := 34) (oi := { dst := some 94, op := Op.move (Operand.tmp 93), type := 4, pos := "law.go:80", after := #[{ on := 33, ground := Ground.data }, { on := 32, ground := Ground.chain }], guard := none }) (v := ?vk34) rfl (by kernel_rfl) (by kernel_rfl) (by kernel_rfl) (fun _ _ _ h => h) (Or.inl ⟨by rfl, ?yk34⟩) (by assumption) ?rk34
  case yk34 => (intro w' hSw; (try dsimp only at hSw); go_simp; try with_reducible rfl)
  try simp only [Act.put, List.setIfInBounds_toArray, List.set_cons_zero, List.set_cons_succ]
  refine wpAnyH_take (i := 35) (oi := { dst := some 95, op := Op.move (Operand.tmp 0), type := 23, pos := "law.go:80", after := #[{ on := 34, ground := Ground.guard }], guard := some (34, true) }) (v := ?vk35) rfl (by kernel_rfl) (by kernel_rfl) (by kernel_rfl) (fun _ _ _ h => h) (Or.inl ⟨by rfl, ?yk35⟩) (by assumption) ?rk35
  case yk35 => (intro w' hSw; (try dsimp only at hSw); go_simp; try with_reducible rfl)
  try simp only [Act.put, List.setIfInBounds_toArray, List.set_cons_zero, List.set_cons_succ]
  refine wpAnyH_take (i := 36) (oi := { dst := some 96, op := Op.fieldAddr 25 (Operand.tmp 3) 0, type := 0, pos := "law.go:80", after := #[{ on := 34, ground := Ground.guard }], guard := some (34, true) }) (v := ?vk36) rfl (by kernel_rfl) (by kernel_rfl) (by kernel_rfl) (fun _ _ _ h => h) (Or.inl ⟨by rfl, ?yk36⟩) (by assumption) ?rk36
  case yk36 => (intro w' hSw; (try dsimp only at hSw); go_simp; try with_reducible rfl)
  try simp only [Act.put, List.setIfInBounds_toArray, List.set_cons_zero, List.set_cons_succ]
  refine wpAnyH_take (i := 37) (oi := { dst := some 97, op := Op.load 9 (Operand.tmp 96), type := 9, pos := "law.go:80", after := #[{ on := 36, ground := Ground.data }, { on := 34, ground := Ground.guard }], guard := some (34, true) }) (v := ?vk37) rfl (by kernel_rfl) (by kernel_rfl) (by kernel_rfl) (fun _ _ _ h => h) (Or.inl ⟨by rfl, ?yk37⟩) (by assumption) ?rk37
  case yk37 => (intro w' hSw; (try dsimp only at hSw); go_simp; try with_reducible rfl)
  try simp only [Act.put, List.setIfInBounds_toArray, List.set_cons_zero, List.set_cons_succ]
  refine wpAnyH_take (i := 40) (oi := { dst := some 100, op := Op.move (Operand.tmp 5), type := 28, pos := "law.go:80", after := #[{ on := 34, ground := Ground.guard }], guard := some (34, true) }) (v := ?vk40) rfl (by kernel_rfl) (by kernel_rfl) (by kernel_rfl) (fun _ _ _ h => h) (Or.inl ⟨by rfl, ?yk40⟩) (by assumption) ?rk40
  case yk40 => (intro w' hSw; (try dsimp only at hSw); go_simp; try with_reducible rfl)
  try simp only [Act.put, List.setIfInBounds_toArray, List.set_cons_zero, List.set_cons_succ]
  refine wpAnyH_take (i := 41) (oi := { dst := some 101, op := Op.fieldAddr 25 (Operand.tmp 3) 0, type := 0, pos := "law.go:80", after := #[{ on := 34, ground := Ground.guard }], guard := some (34, true) }) (v := ?vk41) rfl (by kernel_rfl) (by kernel_rfl) (by kernel_rfl) (fun _ _ _ h => h) (Or.inl ⟨by rfl, ?yk41⟩) (by assumption) ?rk41
  case yk41 => (intro w' hSw; (try dsimp only at hSw); go_simp; try with_reducible rfl)
  try simp only [Act.put, List.setIfInBounds_toArray, List.set_cons_zero, List.set_cons_succ]
  refine wpAnyH_take (i := 42) (oi := { dst := some 102, op := Op.load 9 (Operand.tmp 101), type := 9, pos := "law.go:80", after := #[{ on := 41, ground := Ground.data }, { on := 34, ground := Ground.guard }], guard := some (34, true) }) (v := ?vk42) rfl (by kernel_rfl) (by kernel_rfl) (by kernel_rfl) (fun _ _ _ h => h) (Or.inl ⟨by rfl, ?yk42⟩) (by assumption) ?rk42
  case yk42 => (intro w' hSw; (try dsimp only at hSw); go_simp; try with_reducible rfl)
  try simp only [Act.put, List.setIfInBounds_toArray, List.set_cons_zero, List.set_cons_succ]
  refine wpAnyH_ready (rs := [38]) (by kernel_rfl) (by simp) ?_
  refine AllReadyH.cons (o := { dst := some 98, op := Op.call { callee := Callee.value (Operand.func 19), args := #[Operand.tmp 95, Operand.tmp 97], argTypes := #[23, 9] }, type := 23, pos := "law.go:80", after := #[{ on := 35, ground := Ground.data }, { on := 37, ground := Ground.data }, { on := 34, ground := Ground.chain }, { on := 34, ground := Ground.guard }], guard := some (34, true) }) rfl (fun K hK => ?_) AllReadyH.nil
  go_simp
  refine (CU.out _ BZ1.out).mono ?_
  rintro e wa1 ⟨va, rfl, oa, ba⟩
  have ra1 := Lib.hid oa
  have BA1 := Lib.hid (BZ1.out.trans (ba.mono BZ1.out.size))
  obtain ⟨Aa1, ca1, rfl⟩ := ra1.out.form
  have OF1 := Lib.hid (lawOf_any wa1 _ lc ra1.out (by have := lcN.out; omega))
  clear oa ba
  go_wp2_with fail
  refine hK.out _ _ (HSS.out _ BA1.out) (fun hHeldk38 => ?_)
  clear hK K hHeldk32
  try simp only [Act.put, List.setIfInBounds_toArray, List.set_cons_zero, List.set_cons_succ]
  refine wpAnyH_ready (rs := [39]) (by kernel_rfl) (by simp) ?_
  refine AllReadyH.cons (o := { dst := some 99, op := Op.call { callee := Callee.value (Operand.func 9), args := #[Operand.tmp 98], argTypes := #[23] }, type := 28, pos := "law.go:80", after := #[{ on := 38, ground := Ground.data }, { on := 38, ground := Ground.chain }, { on := 34, ground := Ground.guard }], guard := some (34, true) }) rfl (fun K hK => ?_) AllReadyH.nil
  go_simp
  refine OF1.out.mono ?_
  rintro e wb1 ⟨vb, rfl, ob, bb⟩
  have BB1 := Lib.hid (BA1.out.trans (bb.mono BA1.out.size))
  have RB1 := Lib.hid (Reads.of_own cF_len ob)
  obtain ⟨Ab1, cb1, rfl⟩ := own_form ob
  clear ob bb OF1 ra1
  go_wp2_with fail
  refine hK.out _ _ (HSS.out _ BB1.out) (fun hHeldk39 => ?_)
  clear hK K hHeldk38
  try simp only [Act.put, List.setIfInBounds_toArray, List.set_cons_zero, List.set_cons_succ]
  refine wpAnyH_ready (rs := [43]) (by kernel_rfl) (by simp) ?_
  refine AllReadyH.cons (o := { dst := some 103, op := Op.call { callee := Callee.value (Operand.func 20), args := #[Operand.tmp 100, Operand.tmp 102], argTypes := #[28, 9] }, type := 28, pos := "law.go:80", after := #[{ on := 40, ground := Ground.data }, { on := 42, ground := Ground.data }, { on := 39, ground := Ground.chain }, { on := 34, ground := Ground.guard }], guard := some (34, true) }) rfl (fun K hK => ?_) AllReadyH.nil
  go_simp
  refine (RCU.out _ BB1.out).mono ?_
  rintro e wc1 ⟨vc, rfl, oc, bc⟩
  have BC1 := Lib.hid (BB1.out.trans (bc.mono BB1.out.size))
  have SM1 := Lib.hid (refSame_any wc1 _ vc lc lc (RB1.out.below bc) (Reads.of_own cF_len oc))
  obtain ⟨Ac1, cc1, rfl⟩ := own_form oc
  simp only [decide_true] at SM1
  clear oc bc
  go_wp2_with fail
  refine hK.out _ _ (HSS.out _ BC1.out) (fun hHeldk43 => ?_)
  clear hK K hHeldk39
  try simp only [Act.put, List.setIfInBounds_toArray, List.set_cons_zero, List.set_cons_succ]
  refine wpAnyH_ready (rs := [44]) (by kernel_rfl) (by simp) ?_
  refine AllReadyH.cons (o := { dst := some 104, op := Op.call { callee := Callee.value (Operand.func 16), args := #[Operand.tmp 99, Operand.tmp 103], argTypes := #[28, 28] }, type := 4, pos := "law.go:80", after := #[{ on := 39, ground := Ground.data }, { on := 43, ground := Ground.data }, { on := 43, ground := Ground.chain }, { on := 34, ground := Ground.guard }], guard := some (34, true) }) rfl (fun K hK => ?_) AllReadyH.nil
  go_simp
  refine SM1.out.mono ?_
  rintro e wd ⟨rfl, q1, rfl⟩
  obtain ⟨wz2, hwz⟩ : ∃ wz, wz = wc1.drewN q1 := ⟨_, rfl⟩
  have BZ2 := Lib.hid (show Below GGw.heap.size GGw wz2 by rw [hwz]; exact below_drewN BC1.out _)
  rw [← hwz]
  clear hwz
  go_wp2_with fail
  refine hK.out _ _ (HSS.out _ BZ2.out) (fun hHeldk44 => ?_)
  clear hK K hHeldk43
  try simp only [Act.put, List.setIfInBounds_toArray, List.set_cons_zero, List.set_cons_succ]
  refine wpAnyH_take (i := 45) (oi := { dst := some 105, op := Op.pick (Operand.tmp 94) (Operand.tmp 104) (Operand.const (Value.bool false)), type := 4, pos := "law.go:80", after := #[{ on := 34, ground := Ground.data }, { on := 44, ground := Ground.data }], guard := none }) (v := ?vk45) rfl (by kernel_rfl) (by kernel_rfl) (by kernel_rfl) (fun _ _ _ h => h) (Or.inl ⟨by rfl, ?yk45⟩) (by assumption) ?rk45
  case yk45 => (intro w' hSw; (try dsimp only at hSw); go_simp; try with_reducible rfl)
  try simp only [Act.put, List.setIfInBounds_toArray, List.set_cons_zero, List.set_cons_succ]
  refine wpAnyH_take (i := 46) (oi := { dst := some 106, op := Op.move (Operand.tmp 105), type := 4, pos := "law.go:80", after := #[{ on := 45, ground := Ground.data }, { on := 44, ground := Ground.chain }], guard := none }) (v := ?vk46) rfl (by kernel_rfl) (by kernel_rfl) (by kernel_rfl) (fun _ _ _ h => h) (Or.inl ⟨by rfl, ?yk46⟩) (by assumption) ?rk46
  case yk46 => (intro w' hSw; (try dsimp only at hSw); go_simp; try with_reducible rfl)
  try simp only [Act.put, List.setIfInBounds_toArray, List.set_cons_zero, List.set_cons_succ]
  refine wpAnyH_take (i := 47) (oi := { dst := some 107, op := Op.move (Operand.tmp 0), type := 23, pos := "law.go:80", after := #[{ on := 46, ground := Ground.guard }], guard := some (46, true) }) (v := ?vk47) rfl (by kernel_rfl) (by kernel_rfl) (by kernel_rfl) (fun _ _ _ h => h) (Or.inl ⟨by rfl, ?yk47⟩) (by assumption) ?rk47
  case yk47 => (intro w' hSw; (try dsimp only at hSw); go_simp; try with_reducible rfl)
  try simp only [Act.put, List.setIfInBounds_toArray, List.set_cons_zero, List.set_cons_succ]
  refine wpAnyH_take (i := 48) (oi := { dst := some 108, op := Op.fieldAddr 25 (Operand.tmp 3) 0, type := 0, pos := "law.go:80", after := #[{ on := 46, ground := Ground.guard }], guard := some (46, true) }) (v := ?vk48) rfl (by kernel_rfl) (by kernel_rfl) (by kernel_rfl) (fun _ _ _ h => h) (Or.inl ⟨by rfl, ?yk48⟩) (by assumption) ?rk48
  case yk48 => (intro w' hSw; (try dsimp only at hSw); go_simp; try with_reducible rfl)
  try simp only [Act.put, List.setIfInBounds_toArray, List.set_cons_zero, List.set_cons_succ]
  refine wpAnyH_take (i := 49) (oi := { dst := some 109, op := Op.load 9 (Operand.tmp 108), type := 9, pos := "law.go:80", after := #[{ on := 48, ground := Ground.data }, { on := 46, ground := Ground.guard }], guard := some (46, true) }) (v := ?vk49) rfl (by kernel_rfl) (by kernel_rfl) (by kernel_rfl) (fun _ _ _ h => h) (Or.inl ⟨by rfl, ?yk49⟩) (by assumption) ?rk49
  case yk49 => (intro w' hSw; (try dsimp only at hSw); go_simp; try with_reducible rfl)
  try simp only [Act.put, List.setIfInBounds_toArray, List.set_cons_zero, List.set_cons_succ]
  refine wpAnyH_take (i := 52) (oi := { dst := some 112, op := Op.move (Operand.tmp 5), type := 28, pos := "law.go:80", after := #[{ on := 46, ground := Ground.guard }], guard := some (46, true) }) (v := ?vk52) rfl (by kernel_rfl) (by kernel_rfl) (by kernel_rfl) (fun _ _ _ h => h) (Or.inl ⟨by rfl, ?yk52⟩) (by assumption) ?rk52
  case yk52 => (intro w' hSw; (try dsimp only at hSw); go_simp; try with_reducible rfl)
  try simp only [Act.put, List.setIfInBounds_toArray, List.set_cons_zero, List.set_cons_succ]
  refine wpAnyH_take (i := 53) (oi := { dst := some 113, op := Op.fieldAddr 25 (Operand.tmp 3) 0, type := 0, pos := "law.go:80", after := #[{ on := 46, ground := Ground.guard }], guard := some (46, true) }) (v := ?vk53) rfl (by kernel_rfl) (by kernel_rfl) (by kernel_rfl) (fun _ _ _ h => h) (Or.inl ⟨by rfl, ?yk53⟩) (by assumption) ?rk53
  case yk53 => (intro w' hSw; (try dsimp only at hSw); go_simp; try with_reducible rfl)
  try simp only [Act.put, List.setIfInBounds_toArray, List.set_cons_zero, List.set_cons_succ]
  refine wpAnyH_take (i := 54) (oi := { dst := some 114, op := Op.load 9 (Operand.tmp 113), type := 9, pos := "law.go:80", after := #[{ on := 53, ground := Ground.data }, { on := 46, ground := Ground.guard }], guard := some (46, true) }) (v := ?vk54) rfl (by kernel_rfl) (by kernel_rfl) (by kernel_rfl) (fun _ _ _ h => h) (Or.inl ⟨by rfl, ?yk54⟩) (by assumption) ?rk54
  case yk54 => (intro w' hSw; (try dsimp only at hSw); go_simp; try with_reducible rfl)
  try simp only [Act.put, List.setIfInBounds_toArray, List.set_cons_zero, List.set_cons_succ]
  refine wpAnyH_ready (rs := [50]) (by kernel_rfl) (by simp) ?_
  refine AllReadyH.cons (o := { dst := some 110, op := Op.call { callee := Callee.value (Operand.func 21), args := #[Operand.tmp 107, Operand.tmp 109], argTypes := #[23, 9] }, type := 23, pos := "law.go:80", after := #[{ on := 47, ground := Ground.data }, { on := 49, ground := Ground.data }, { on := 46, ground := Ground.chain }, { on := 46, ground := Ground.guard }], guard := some (46, true) }) rfl (fun K hK => ?_) AllReadyH.nil
  go_simp
  refine (CL.out _ BZ2.out).mono ?_
  rintro e wa2 ⟨va, rfl, oa, ba⟩
  have ra2 := Lib.hid oa
  have BA2 := Lib.hid (BZ2.out.trans (ba.mono BZ2.out.size))
  obtain ⟨Aa2, ca2, rfl⟩ := ra2.out.form
  have OF2 := Lib.hid (lawOf_any wa2 _ le ra2.out (by have := leN.out; omega))
  clear oa ba
  go_wp2_with fail
  refine hK.out _ _ (HSS.out _ BA2.out) (fun hHeldk50 => ?_)
  clear hK K hHeldk44
  try simp only [Act.put, List.setIfInBounds_toArray, List.set_cons_zero, List.set_cons_succ]
  refine wpAnyH_ready (rs := [51]) (by kernel_rfl) (by simp) ?_
  refine AllReadyH.cons (o := { dst := some 111, op := Op.call { callee := Callee.value (Operand.func 9), args := #[Operand.tmp 110], argTypes := #[23] }, type := 28, pos := "law.go:80", after := #[{ on := 50, ground := Ground.data }, { on := 50, ground := Ground.chain }, { on := 46, ground := Ground.guard }], guard := some (46, true) }) rfl (fun K hK => ?_) AllReadyH.nil
  go_simp
  refine OF2.out.mono ?_
  rintro e wb2 ⟨vb, rfl, ob, bb⟩
  have BB2 := Lib.hid (BA2.out.trans (bb.mono BA2.out.size))
  have RB2 := Lib.hid (Reads.of_own cF_len ob)
  obtain ⟨Ab2, cb2, rfl⟩ := own_form ob
  clear ob bb OF2 ra2
  go_wp2_with fail
  refine hK.out _ _ (HSS.out _ BB2.out) (fun hHeldk51 => ?_)
  clear hK K hHeldk50
  try simp only [Act.put, List.setIfInBounds_toArray, List.set_cons_zero, List.set_cons_succ]
  refine wpAnyH_ready (rs := [55]) (by kernel_rfl) (by simp) ?_
  refine AllReadyH.cons (o := { dst := some 115, op := Op.call { callee := Callee.value (Operand.func 22), args := #[Operand.tmp 112, Operand.tmp 114], argTypes := #[28, 9] }, type := 28, pos := "law.go:80", after := #[{ on := 52, ground := Ground.data }, { on := 54, ground := Ground.data }, { on := 51, ground := Ground.chain }, { on := 46, ground := Ground.guard }], guard := some (46, true) }) rfl (fun K hK => ?_) AllReadyH.nil
  go_simp
  refine (RCL.out _ BB2.out).mono ?_
  rintro e wc2 ⟨vc, rfl, oc, bc⟩
  have BC2 := Lib.hid (BB2.out.trans (bc.mono BB2.out.size))
  have SM2 := Lib.hid (refSame_any wc2 _ vc le le (RB2.out.below bc) (Reads.of_own cF_len oc))
  obtain ⟨Ac2, cc2, rfl⟩ := own_form oc
  simp only [decide_true] at SM2
  clear oc bc
  go_wp2_with fail
  refine hK.out _ _ (HSS.out _ BC2.out) (fun hHeldk55 => ?_)
  clear hK K hHeldk51
  try simp only [Act.put, List.setIfInBounds_toArray, List.set_cons_zero, List.set_cons_succ]
  refine wpAnyH_ready (rs := [56]) (by kernel_rfl) (by simp) ?_
  refine AllReadyH.cons (o := { dst := some 116, op := Op.call { callee := Callee.value (Operand.func 16), args := #[Operand.tmp 111, Operand.tmp 115], argTypes := #[28, 28] }, type := 4, pos := "law.go:80", after := #[{ on := 51, ground := Ground.data }, { on := 55, ground := Ground.data }, { on := 55, ground := Ground.chain }, { on := 46, ground := Ground.guard }], guard := some (46, true) }) rfl (fun K hK => ?_) AllReadyH.nil
  go_simp
  refine SM2.out.mono ?_
  rintro e wd ⟨rfl, q2, rfl⟩
  obtain ⟨wz3, hwz⟩ : ∃ wz, wz = wc2.drewN q2 := ⟨_, rfl⟩
  have BZ3 := Lib.hid (show Below GGw.heap.size GGw wz3 by rw [hwz]; exact below_drewN BC2.out _)
  rw [← hwz]
  clear hwz
  go_wp2_with fail
  refine hK.out _ _ (HSS.out _ BZ3.out) (fun hHeldk56 => ?_)
  clear hK K hHeldk55
  try simp only [Act.put, List.setIfInBounds_toArray, List.set_cons_zero, List.set_cons_succ]
  refine wpAnyH_take (i := 57) (oi := { dst := some 117, op := Op.pick (Operand.tmp 106) (Operand.tmp 116) (Operand.const (Value.bool false)), type := 4, pos := "law.go:80", after := #[{ on := 46, ground := Ground.data }, { on := 56, ground := Ground.data }], guard := none }) (v := ?vk57) rfl (by kernel_rfl) (by kernel_rfl) (by kernel_rfl) (fun _ _ _ h => h) (Or.inl ⟨by rfl, ?yk57⟩) (by assumption) ?rk57
  case yk57 => (intro w' hSw; (try dsimp only at hSw); go_simp; try with_reducible rfl)
  try simp only [Act.put, List.setIfInBounds_toArray, List.set_cons_zero, List.set_cons_succ]
  refine wpAnyH_take (i := 58) (oi := { dst := some 118, op := Op.move (Operand.tmp 117), type := 4, pos := "law.go:80", after := #[{ on := 57, ground := Ground.data }, { on := 56, ground := Ground.chain }], guard := none }) (v := ?vk58) rfl (by kernel_rfl) (by kernel_rfl) (by kernel_rfl) (fun _ _ _ h => h) (Or.inl ⟨by rfl, ?yk58⟩) (by assumption) ?rk58
  case yk58 => (intro w' hSw; (try dsimp only at hSw); go_simp; try with_reducible rfl)
  try simp only [Act.put, List.setIfInBounds_toArray, List.set_cons_zero, List.set_cons_succ]
  refine wpAnyH_take (i := 59) (oi := { dst := some 119, op := Op.move (Operand.tmp 0), type := 23, pos := "law.go:80", after := #[{ on := 58, ground := Ground.guard }], guard := some (58, true) }) (v := ?vk59) rfl (by kernel_rfl) (by kernel_rfl) (by kernel_rfl) (fun _ _ _ h => h) (Or.inl ⟨by rfl, ?yk59⟩) (by assumption) ?rk59
  case yk59 => (intro w' hSw; (try dsimp only at hSw); go_simp; try with_reducible rfl)
  try simp only [Act.put, List.setIfInBounds_toArray, List.set_cons_zero, List.set_cons_succ]
  refine wpAnyH_take (i := 61) (oi := { dst := some 121, op := Op.move (Operand.tmp 5), type := 28, pos := "law.go:80", after := #[{ on := 58, ground := Ground.guard }], guard := some (58, true) }) (v := ?vk61) rfl (by kernel_rfl) (by kernel_rfl) (by kernel_rfl) (fun _ _ _ h => h) (Or.inl ⟨by rfl, ?yk61⟩) (by assumption) ?rk61
  case yk61 => (intro w' hSw; (try dsimp only at hSw); go_simp; try with_reducible rfl)
  try simp only [Act.put, List.setIfInBounds_toArray, List.set_cons_zero, List.set_cons_succ]
  refine wpAnyH_ready (rs := [60]) (by kernel_rfl) (by simp) ?_
  refine AllReadyH.cons (o := { dst := some 120, op := Op.call { callee := Callee.value (Operand.func 9), args := #[Operand.tmp 119], argTypes := #[23] }, type := 28, pos := "law.go:80", after := #[{ on := 59, ground := Ground.data }, { on := 58, ground := Ground.chain }, { on := 58, ground := Ground.guard }], guard := some (58, true) }) rfl (fun K hK => ?_) AllReadyH.nil
  go_simp
  have OFe := Lib.hid (lawOf_any wz3 _ l (RA10.out wz3 BZ3.out) (by omega))
  refine OFe.out.mono ?_
  rintro e wc3 ⟨vb, rfl, ob, bb⟩
  have BC3 := Lib.hid (BZ3.out.trans (bb.mono BZ3.out.size))
  have SM3 := Lib.hid (refSame_any wc3 vb _ l l (Reads.of_own cF_len ob) (RX10.out wc3 BC3.out))
  obtain ⟨Abe, cbe, rfl⟩ := own_form ob
  simp only [decide_true] at SM3
  clear ob bb OFe
  go_wp2_with fail
  refine hK.out _ _ (HSS.out _ BC3.out) (fun hHeldk60 => ?_)
  clear hK K hHeldk56
  try simp only [Act.put, List.setIfInBounds_toArray, List.set_cons_zero, List.set_cons_succ]
  refine wpAnyH_ready (rs := [62]) (by kernel_rfl) (by simp) ?_
  refine AllReadyH.cons (o := { dst := some 122, op := Op.call { callee := Callee.value (Operand.func 16), args := #[Operand.tmp 120, Operand.tmp 121], argTypes := #[28, 28] }, type := 4, pos := "law.go:80", after := #[{ on := 60, ground := Ground.data }, { on := 61, ground := Ground.data }, { on := 60, ground := Ground.chain }, { on := 58, ground := Ground.guard }], guard := some (58, true) }) rfl (fun K hK => ?_) AllReadyH.nil
  go_simp
  refine SM3.out.mono ?_
  rintro e wd ⟨rfl, q3, rfl⟩
  obtain ⟨wz4, hwz⟩ : ∃ wz, wz = wc3.drewN q3 := ⟨_, rfl⟩
  have BZ4 := Lib.hid (show Below GGw.heap.size GGw wz4 by rw [hwz]; exact below_drewN BC3.out _)
  rw [← hwz]
  clear hwz
  go_wp2_with fail
  refine hK.out _ _ (HSS.out _ BZ4.out) (fun hHeldk62 => ?_)
  clear hK K hHeldk60
  try simp only [Act.put, List.setIfInBounds_toArray, List.set_cons_zero, List.set_cons_succ]
  refine wpAnyH_take (i := 63) (oi := { dst := some 123, op := Op.pick (Operand.tmp 118) (Operand.tmp 122) (Operand.const (Value.bool false)), type := 4, pos := "law.go:80", after := #[{ on := 58, ground := Ground.data }, { on := 62, ground := Ground.data }], guard := none }) (v := ?vk63) rfl (by kernel_rfl) (by kernel_rfl) (by kernel_rfl) (fun _ _ _ h => h) (Or.inl ⟨by rfl, ?yk63⟩) (by assumption) ?rk63
  case yk63 => (intro w' hSw; (try dsimp only at hSw); go_simp; try with_reducible rfl)
  try simp only [Act.put, List.setIfInBounds_toArray, List.set_cons_zero, List.set_cons_succ]
  refine wpAnyH_take (i := 64) (oi := { dst := some 4, op := Op.assign (Operand.tmp 123), type := 4, pos := "law.go:80", after := ([{ on := 63, ground := Ground.data }, { on := 62, ground := Ground.chain }, { on := 0, ground := Ground.phase }, { on := 1, ground := Ground.phase }, { on := 2, ground := Ground.phase }, { on := 3, ground := Ground.phase }, { on := 4, ground := Ground.phase }, { on := 5, ground := Ground.phase }, { on := 6, ground := Ground.phase }, { on := 7, ground := Ground.phase }, { on := 8, ground := Ground.phase }, { on := 9, ground := Ground.phase }, { on := 10, ground := Ground.phase }, { on := 11, ground := Ground.phase }, { on := 12, ground := Ground.phase }, { on := 13, ground := Ground.phase }, { on := 14, ground := Ground.phase }, { on := 15, ground := Ground.phase }, { on := 16, ground := Ground.phase }, { on := 17, ground := Ground.phase }, { on := 18, ground := Ground.phase }, { on := 19, ground := Ground.phase }, { on := 20, ground := Ground.phase }, { on := 21, ground := Ground.phase }, { on := 22, ground := Ground.phase }, { on := 23, ground := Ground.phase }, { on := 24, ground := Ground.phase }, { on := 25, ground := Ground.phase }, { on := 26, ground := Ground.phase }, { on := 27, ground := Ground.phase }, { on := 28, ground := Ground.phase }, { on := 29, ground := Ground.phase }, { on := 30, ground := Ground.phase }].append [{ on := 31, ground := Ground.phase }, { on := 32, ground := Ground.phase }, { on := 33, ground := Ground.phase }, { on := 34, ground := Ground.phase }, { on := 35, ground := Ground.phase }, { on := 36, ground := Ground.phase }, { on := 37, ground := Ground.phase }, { on := 38, ground := Ground.phase }, { on := 39, ground := Ground.phase }, { on := 40, ground := Ground.phase }, { on := 41, ground := Ground.phase }, { on := 42, ground := Ground.phase }, { on := 43, ground := Ground.phase }, { on := 44, ground := Ground.phase }, { on := 45, ground := Ground.phase }, { on := 46, ground := Ground.phase }, { on := 47, ground := Ground.phase }, { on := 48, ground := Ground.phase }, { on := 49, ground := Ground.phase }, { on := 50, ground := Ground.phase }, { on := 51, ground := Ground.phase }, { on := 52, ground := Ground.phase }, { on := 53, ground := Ground.phase }, { on := 54, ground := Ground.phase }, { on := 55, ground := Ground.phase }, { on := 56, ground := Ground.phase }, { on := 57, ground := Ground.phase }, { on := 58, ground := Ground.phase }, { on := 59, ground := Ground.phase }, { on := 60, ground := Ground.phase }, { on := 61, ground := Ground.phase }, { on := 62, ground := Ground.phase }, { on := 63, ground := Ground.phase }]).toArray, guard := none }) (v := ?vk64) rfl (by kernel_rfl) (by kernel_rfl) (by kernel_rfl) (fun _ _ _ h => h) (Or.inl ⟨by rfl, ?yk64⟩) (by assumption) ?rk64
  case yk64 => (intro w' hSw; (try dsimp only at hSw); go_simp; try with_reducible rfl)
  try simp only [Act.put, List.setIfInBounds_toArray, List.set_cons_zero, List.set_cons_succ]
  refine wpAnyH_done (by kernel_rfl) ?_ _
  go_wp2_with fail
  go_ret
  exact ⟨rfl, HF.out.trans ((C10.out.trans (BZ4.out.mono C10.out.size)).mono hFs)⟩
end Go.Proofs.YtplleaimmmanhaaGreatDoor
