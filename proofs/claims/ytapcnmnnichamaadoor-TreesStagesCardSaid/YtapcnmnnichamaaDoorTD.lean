/-
  merge.Text as tmerge wants it.
  rectolaw16.known is true.
  rectolaw16.known is true: the walk.
-/
import Derived.Test.YtapcnmnnichamaaDoorTC
import Derived.Test.YtapcnmnnichamaaDoorVG

namespace Go.Proofs.YtapcnmnnichamaaDoor
open Go Go.RowKit

/-- The text that three make, and how much of it clashes; where no text has too many lines. -/
def txG (b y z a n : ByteArray) : ByteArray × Nat := (Mg.mk (Mg.txtAll a.data.toList n.data.toList (Mg.allC (Mg.lns b) (Mg.lns y) (Mg.lns z))), Mg.clashes (Mg.allC (Mg.lns b) (Mg.lns y) (Mg.lns z)))
theorem text_good (b y z a n : ByteArray) (h1 : b.size ≤ 20000) (h2 : y.size ≤ 20000) (h3 : z.size ≤ 20000) (h4 : a.size ≤ 1000) (h5 : n.size ≤ 1000)
    (l1 : (Mg.lns b).length ≤ 256) (l2 : (Mg.lns y).length ≤ 256) (l3 : (Mg.lns z).length ≤ 256) (W : World) : TextSays (some (txG b y z a n)) b y z a n W :=
  (Mg.text_any W b y z a n h1 h2 h3 h4 h5 l1 l2 l3).mono fun _ _ ⟨he, hb⟩ => ⟨he, hb⟩
end Go.Proofs.YtapcnmnnichamaaDoor

namespace Go.Proofs.YtapcnmnnichamaaDoor
open Go Go.RowKit

abbrev qA : ByteArray := ⟨#[97]⟩
abbrev qB : ByteArray := ⟨#[98]⟩
abbrev qX : ByteArray := ⟨#[120, 10]⟩
abbrev qY : ByteArray := ⟨#[121, 10]⟩
abbrev qU : ByteArray := ⟨#[88, 10]⟩
abbrev q1 : ByteArray := ⟨#[49, 10]⟩
abbrev q2 : ByteArray := ⟨#[50, 10]⟩
abbrev qp : ByteArray := ⟨#[112]⟩
abbrev qq : ByteArray := ⟨#[113]⟩
abbrev kb : List Fl := [(qA, 1, qX), (qB, 1, qY)]
abbrev ko : List Fl := [(qA, 1, qU), (qB, 1, q1)]
abbrev kt : List Fl := [(qA, 1, qX), (qB, 1, q2)]
theorem qAB : cb qA qB < 0 := by decide
theorem kp : pathsP kb ko kt = [qA, qB] := rise_unique (nrm_rise _) (List.pairwise_pair.2 qAB) fun s => by
  unfold pathsP
  rw [nrm_mem]
  simp
  constructor
  · rintro (h | h | h | h | h | h) <;> simp [h]
  · rintro (h | h) <;> simp [h]
theorem kcb : chkF kb = none := by decide
theorem kco : chkF ko = none := by decide
theorem kct : chkF kt = none := by decide
theorem ksz {x y : Fl} (hx : x.1.size ≤ 1000000 ∧ x.2.2.size ≤ 1000000) (hy : y.1.size ≤ 1000000 ∧ y.2.2.size ≤ 1000000) : SizedD [x, y] := fun z hz => by
  simp at hz
  rcases hz with rfl | rfl
  · exact hx
  · exact hy
/-- What merge.Text says at known's one clash. -/
def kx (p : ByteArray) : TxO := if p = qB then some (txG qY q1 q2 qp qq) else none
theorem ktx : (txG qY q1 q2 qp qq).2 = 1 ∧ (txG qY q1 q2 qp qq).1.size ≤ 4096 := by decide +kernel
theorem kln : (Mg.lns qY).length ≤ 256 ∧ (Mg.lns q1).length ≤ 256 ∧ (Mg.lns q2).length ≤ 256 := by decide +kernel
theorem gba : getF kb qA = some (qA, 1, qX) := by decide
theorem goa : getF ko qA = some (qA, 1, qU) := by decide
theorem gta : getF kt qA = some (qA, 1, qX) := by decide
theorem gbb : getF kb qB = some (qB, 1, qY) := by decide
theorem gob : getF ko qB = some (qB, 1, q1) := by decide
theorem gtb : getF kt qB = some (qB, 1, q2) := by decide
abbrev kone : OneF := fun p => oneV (kx p) p (getF kb p) (getF ko p) (getF kt p)
theorem koneA : kone qA = (some (qA, 1, qU), false) := by
  show oneV (kx qA) qA (getF kb qA) (getF ko qA) (getF kt qA) = _
  rw [gba, goa, gta]
  unfold oneV
  rw [if_pos (.inr rfl)]
theorem koneB : kone qB = (some (qB, 1, (txG qY q1 q2 qp qq).1), true) := by
  show oneV (kx qB) qB (getF kb qB) (getF ko qB) (getF kt qB) = _
  rw [gbb, gob, gtb]
  have h1 : ¬ (some ((qB, 1, q1) : Fl) = some (qB, 1, q2) ∨ some ((qB, 1, qY) : Fl) = some (qB, 1, q2)) := by decide
  have h2 : ¬ some ((qB, 1, qY) : Fl) = some (qB, 1, q1) := by decide
  have hm : mdV (kx qB) (some (qB, 1, qY)) q1 q2 = ((txG qY q1 q2 qp qq).1, true) := by
    unfold mdV
    rw [if_neg (by decide), if_neg (by decide), if_neg (by decide)]
    unfold kx
    rw [if_pos rfl]
    have := ktx
    generalize txG qY q1 q2 qp qq = sk at *
    obtain ⟨s, k⟩ := sk
    dsimp only at this ⊢
    rw [if_neg (by omega), this.1]
    rfl
  unfold oneV
  rw [if_neg h1, if_neg h2, if_pos ⟨rfl, rfl⟩]
  show (some (qB, _, (mdV (kx qB) (some (qB, 1, qY)) q1 q2).1), (mdV (kx qB) (some (qB, 1, qY)) q1 q2).2) = _
  rw [hm]
  rfl
theorem kF : mrgF kone [qA, qB] = [(qA, 1, qU), (qB, 1, (txG qY q1 q2 qp qq).1)] := by
  unfold mrgF
  rw [List.filterMap_cons, koneA, List.filterMap_cons, koneB]
  rfl
theorem kC : mrgC kone [qA, qB] = [qB] := by
  unfold mrgC
  rw [List.filter_cons, koneA, if_neg (by simp), List.filter_cons, koneB, if_pos rfl]
  rfl
theorem kE : (mrgE kone (fun p => entV p (getF kb p) (getF ko p) (getF kt p)) [qA, qB]).length = 3 := by
  unfold mrgE
  rw [kC]
  show (entV qB (getF kb qB) (getF ko qB) (getF kt qB) ++ []).length = 3
  rw [gbb, gob, gtb]
  rfl
theorem kW : wayV [(qA, 1, qU), (qB, 1, (txG qY q1 q2 qp qq).1)] = none := wayV_good (by simp) fun i f hi => by
  match i, hi with
  | 0, hi => simp at hi; subst hi; rfl
  | 1, hi => simp at hi; subst hi; decide
  | i + 2, hi => simp at hi
theorem reads_two (w : World) (x y : Fl) : Reads 3 cF (w.alloc (.cells #[.string x.1, .int .i64 x.2.1, .string x.2.2, .string y.1, .int .i64 y.2.1, .string y.2.2] 36)) (.slice (some ⟨w.heap.size, 0, none⟩) 2 2) [x, y] := by
  have z := Blk.new w 36 #[.string x.1, .int .i64 x.2.1, .string x.2.2, .string y.1, .int .i64 y.2.1, .string y.2.2]
  obtain ⟨g, hg⟩ : ∃ g, g = w.heap.size := ⟨_, rfl⟩
  rw [← hg] at z ⊢
  refine ⟨some ⟨g, 0, none⟩, 2, rfl, Nat.le_refl _, by decide, by simp, fun ad hA i f hf j u hu => ?_⟩
  obtain rfl := Option.some.inj hA
  match i, hf with
  | 0, hf =>
    simp at hf
    subst hf
    match j, hu with
    | 0, hu => simp [cF] at hu; subst hu; exact z.cell 0
    | 1, hu => simp [cF] at hu; subst hu; exact z.cell 1
    | 2, hu => simp [cF] at hu; subst hu; exact z.cell 2
    | j + 3, hu => simp [cF] at hu
  | 1, hf =>
    simp at hf
    subst hf
    match j, hu with
    | 0, hu =>
      simp [cF] at hu; subst hu
      show World.cell? _ ((⟨g, 0, none⟩ : Addr).add 3) = _
      rw [add_zero_off]; exact z.cell 3
    | 1, hu =>
      simp [cF] at hu; subst hu
      show World.cell? _ ⟨((⟨g, 0, none⟩ : Addr).add 3).block, ((⟨g, 0, none⟩ : Addr).add 3).off + 1, none⟩ = _
      rw [add_zero_off]; exact z.cell 4
    | 2, hu =>
      simp [cF] at hu; subst hu
      show World.cell? _ ⟨((⟨g, 0, none⟩ : Addr).add 3).block, ((⟨g, 0, none⟩ : Addr).add 3).off + 2, none⟩ = _
      rw [add_zero_off]; exact z.cell 5
    | j + 3, hu => simp [cF] at hu
  | i + 2, hf => simp at hf
theorem khT (p : ByteArray) (hp : p ∈ pathsP kb ko kt) (_h1 : getF ko p ≠ getF kt p) (h2 : getF kb p ≠ getF kt p) (_h3 : getF kb p ≠ getF ko p) (W : World) : TextSays (kx p) (sD (getF kb p)) (sD (getF ko p)) (sD (getF kt p)) qp qq W := by
  rw [kp] at hp
  simp at hp
  rcases hp with rfl | rfl
  · exact absurd (gba.trans gta.symm) h2
  · rw [gbb, gob, gtb]
    unfold kx
    rw [if_pos rfl]
    exact text_good qY q1 q2 qp qq (by decide) (by decide) (by decide) (by decide) (by decide) kln.1 kln.2.1 kln.2.2 W
theorem khx (p : ByteArray) (s : ByteArray) (k : Nat) (h : kx p = some (s, k)) : k ≤ 1000000 ∧ s.size ≤ 1000000000 := by
  unfold kx at h
  split at h
  · have := ktx
    obtain e := Option.some.inj h
    rw [e] at this
    dsimp only at this
    exact ⟨by have := this.1; omega, by have := this.2; omega⟩
  · cases h
end Go.Proofs.YtapcnmnnichamaaDoor

namespace Go.Proofs.YtapcnmnnichamaaDoor
open Go Go.RowKit

abbrev rowC (x y : Fl) : Array Value := #[.string x.1, .int .i64 x.2.1, .string x.2.2, .string y.1, .int .i64 y.2.1, .string y.2.2]
theorem own_firstL {w : World} {B : Nat} {e : TypeId} {k : Nat} {v : Value} {n : Nat} {xs : List Value} (h : w.ownsRow B e k v n xs) (hn : 0 < n) :
    ∃ g cap, v = .slice (some ⟨g, 0, none⟩) n cap ∧ n ≤ cap ∧ cap ≤ 9223372036854775807 ∧ g < w.heap.size := by
  rcases h.2 with ⟨_, h0⟩ | ⟨g, cap, cur, hv, hg, hgb, hnc, hcm, _⟩
  · omega
  · exact ⟨g, cap, hv, hnc, by unfold maxLen at hcm; omega, (Array.getElem?_eq_some_iff.1 hgb).1⟩
theorem merged_ok {fs : List Fl} {es : List En} {cs : List ByteArray} {w w' : World} {e : Ending} (h : MergedTo fs es cs w e w') (hw : wayV fs = none) :
    ∃ vf ve vc, e = .returned (.tuple #[.agg #[vf, ve, vc], .nilIface]) ∧ w'.ownsRow w.heap.size 36 3 vf fs.length (fs.flatMap cF) ∧ w'.ownsRow w.heap.size 40 6 ve es.length (es.flatMap cE) ∧ w'.ownsRow w.heap.size 9 1 vc cs.length (cs.map Value.string) ∧ Below w.heap.size w w' := by
  rcases h with ⟨_, h⟩ | ⟨i, k, F, h, _⟩
  · exact h
  · rw [hw] at h; cases h
set_option maxRecDepth 100000 in
set_option maxHeartbeats 4000000 in
theorem known16_yes (w : World) : Calls Tryd.prog 4 #[] w fun e w' => e = .returned (.bool true) ∧ Below w.heap.size w w' := by
  have R1 := Lib.hid (reads_two w (qA, 1, qX) (qB, 1, qY))
  have B1 := Lib.hid ((Below.refl w.heap.size w).alloc (Nat.le_refl _) (.cells (rowC (qA, 1, qX) (qB, 1, qY)) 36))
  obtain ⟨g, hg⟩ : ∃ g, g = w.heap.size := ⟨_, rfl⟩
  have HG := Lib.hid hg
  have e1 : (w.alloc (.cells (rowC (qA, 1, qX) (qB, 1, qY)) 36)).heap.size = g + 1 := by rw [hg]; simp
  have e2 : ((w.alloc (.cells (rowC (qA, 1, qX) (qB, 1, qY)) 36)).alloc (.cells (rowC (qA, 1, qU) (qB, 1, q1)) 36)).heap.size = g + 1 + 1 := by rw [hg]; simp
  have r2 := reads_two (w.alloc (.cells (rowC (qA, 1, qX) (qB, 1, qY)) 36)) (qA, 1, qU) (qB, 1, q1)
  have r3 := reads_two ((w.alloc (.cells (rowC (qA, 1, qX) (qB, 1, qY)) 36)).alloc (.cells (rowC (qA, 1, qU) (qB, 1, q1)) 36)) (qA, 1, qX) (qB, 1, q2)
  rw [e1] at r2
  rw [e2] at r3
  rw [← hg] at R1
  have R1' := Lib.hid ((R1.out.alloc (.cells (rowC (qA, 1, qU) (qB, 1, q1)) 36)).alloc (.cells (rowC (qA, 1, qX) (qB, 1, q2)) 36))
  have R2' := Lib.hid (r2.alloc (.cells (rowC (qA, 1, qX) (qB, 1, q2)) 36))
  have R3' := Lib.hid r3
  have B3 := Lib.hid ((B1.out.alloc B1.out.size (.cells (rowC (qA, 1, qU) (qB, 1, q1)) 36)).alloc (by simp; omega) (.cells (rowC (qA, 1, qX) (qB, 1, q2)) 36))
  clear R1 r2 r3 e1 e2 B1
  go_enter Tryd.func4, Tryd.ntmps4
  go_upto_region 4 with fail
  rw [← hg]
  clear hg
  generalize hW : ((w.alloc (.cells (rowC (qA, 1, qX) (qB, 1, qY)) 36)).alloc (.cells (rowC (qA, 1, qU) (qB, 1, q1)) 36)).alloc (.cells (rowC (qA, 1, qX) (qB, 1, q2)) 36) = w3 at *
  clear hW
  have MG := merge_any w3 _ _ _ kb ko kt qp qq R1'.out R2'.out R3'.out kcb kco kct (ksz (by decide) (by decide)) (ksz (by decide) (by decide)) (ksz (by decide) (by decide)) kx khT khx
  rw [kp, kF, kC] at MG
  have MG1 := Lib.hid (MG.mono fun e w' h => merged_ok h kW)
  have HEL := Lib.hid kE
  obtain ⟨es, hes⟩ : ∃ l, l = mrgE kone (fun p => entV p (getF kb p) (getF ko p) (getF kt p)) [qA, qB] := ⟨_, rfl⟩
  have MG2 := Lib.hid (show Calls Tryd.prog 7 #[.slice (some ⟨g, 0, none⟩) 2 2, .slice (some ⟨g + 1, 0, none⟩) 2 2, .slice (some ⟨g + 1 + 1, 0, none⟩) 2 2, .string qp, .string qq] w3 (fun e w' => ∃ vf ve vc, e = .returned (.tuple #[.agg #[vf, ve, vc], .nilIface]) ∧ w'.ownsRow w3.heap.size 36 3 vf 2 ([(qA, 1, qU), (qB, 1, (txG qY q1 q2 qp qq).1)].flatMap cF) ∧ w'.ownsRow w3.heap.size 40 6 ve es.length (es.flatMap cE) ∧ w'.ownsRow w3.heap.size 9 1 vc 1 ([qB].map Value.string) ∧ Below w3.heap.size w3 w') from by rw [hes]; exact MG1.out)
  rw [← hes] at HEL
  obtain ⟨tt, htt⟩ : ∃ x, x = (txG qY q1 q2 qp qq).1 := ⟨_, rfl⟩
  rw [← htt] at MG2
  have ON := Lib.hid (fun W (hW : Below w3.heap.size w3 W) => (show Calls Tryd.prog 9 #[.string qA, .slice (some ⟨g, 0, none⟩) 2 2, .slice (some ⟨g + 1, 0, none⟩) 2 2, .slice (some ⟨g + 1 + 1, 0, none⟩) 2 2, .string qp, .string qq] W (OneTold (some (qA, 1, qU), false) W) from by
    have h := one_any W qA _ _ _ kb ko kt qp qq (R1'.out.below hW) (R2'.out.below hW) (R3'.out.below hW) (chkF_rise kcb) (chkF_rise kco) (chkF_rise kct) (by simp) (by simp) (by simp) (kx qA) (fun _ h2 _ => absurd (gba.trans gta.symm) h2) (khx qA)
    rw [show oneV (kx qA) qA (getF kb qA) (getF ko qA) (getF kt qA) = (some (qA, 1, qU), false) from koneA] at h
    exact h))
  clear MG MG1 hes htt
  go_upto_region 6 with (first
    | (go_at_call 7; go_loud (refine MG2.out.mono ?_; rintro e w4 ⟨vf, ve, vc, rfl, of, oe, oc, b4⟩; obtain ⟨gf, cf, rfl, hcf, hcm, hgf⟩ := own_firstL of (by decide); obtain ⟨gc, cc, rfl, hcc, hccm, hgc⟩ := own_firstL oc (by decide); obtain ⟨Ae, ce, rfl⟩ := own_form oe; rw [HEL.out]; have X4 := Lib.hid (Blk.new w4 29 #[.slice (some ⟨gf, 0, none⟩) 2 cf, .slice Ae 3 ce, .slice (some ⟨gc, 0, none⟩) 1 cc]); have OF := Lib.hid (of.alloc (.cells #[.slice (some ⟨gf, 0, none⟩) 2 cf, .slice Ae 3 ce, .slice (some ⟨gc, 0, none⟩) 1 cc] 29)); have OC := Lib.hid (oc.alloc (.cells #[.slice (some ⟨gf, 0, none⟩) 2 cf, .slice Ae 3 ce, .slice (some ⟨gc, 0, none⟩) 1 cc] 29)); have B4 := Lib.hid (b4.alloc b4.size (.cells #[.slice (some ⟨gf, 0, none⟩) 2 cf, .slice Ae 3 ce, .slice (some ⟨gc, 0, none⟩) 1 cc] 29)); clear hgf hgc; have ON1 := Lib.hid (ON.out _ B4.out); clear of oe oc b4))
    | (go_at_call 9; go_loud (refine ON1.out.mono ?_; rintro e w5 ⟨rfl, b5⟩; have X5 := Lib.hid ((X4.out.below b5 X4.out.lt).alloc (.cells (fileA (some (qA, 1, qU))) 36)); have OF5 := Lib.hid ((own_keep OF.out b5).alloc (.cells (fileA (some (qA, 1, qU))) 36)); have OC5 := Lib.hid ((own_keep OC.out b5).alloc (.cells (fileA (some (qA, 1, qU))) 36)); have B5 := Lib.hid ((B3.out.trans ((B4.out.trans (b5.mono B4.out.size)).mono B3.out.size)).alloc (by have := B3.out.size; have := B4.out.size; have := b5.size; omega) (.cells (fileA (some (qA, 1, qU))) 36)); have Z5 := Lib.hid (Blk.new w5 36 (fileA (some (qA, 1, qU)))); clear b5)))
  obtain ⟨g4, hg4⟩ : ∃ x, x = w4.heap.size := ⟨_, rfl⟩
  obtain ⟨g5, hg5⟩ : ∃ x, x = w5.heap.size := ⟨_, rfl⟩
  rw [← hg4] at X5 ⊢
  rw [← hg5] at Z5 ⊢
  clear hg4 hg5
  generalize hW6 : w5.alloc (.cells (fileA (some (qA, 1, qU))) 36) = w6 at *
  clear hW6
  have x0 := X5.out.cell 0
  have x1 := X5.out.cell 1
  have x2 := X5.out.cell 2
  have z2 : w6.cell? ⟨g5, 2, none⟩ = some (.string qU) := Z5.out.cell 2
  have d2 : w6.cell? ⟨gf, 2, none⟩ = some (.string qU) := OF5.out.cellAt 2 (by decide)
  have d0 : w6.cell? ⟨gc, 0, none⟩ = some (.string qB) := OC5.out.cellAt 0 (by decide)
  have HB := Lib.hid B5.out
  clear X5 Z5 OF5 OC5 X4 OF OC B4 ON1 B5
  go_wp2
  go_ret
  exact ⟨rfl, HB.out⟩
end Go.Proofs.YtapcnmnnichamaaDoor
