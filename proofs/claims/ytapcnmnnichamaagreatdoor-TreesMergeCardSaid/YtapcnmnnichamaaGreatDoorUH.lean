/-
  rectoref14.Merge of three trees that may be: as tmerge's.
-/
import Derived.Test.YtapcnmnnichamaaGreatDoorUF
import Derived.Test.YtapcnmnnichamaaGreatDoorUG
import Derived.Deep.RegionLaw
import Derived.Deep.RegionHeld3

namespace Go.Proofs.YtapcnmnnichamaaGreatDoor
open Go Go.RowKit

theorem results_cell_cell {fn : Func} {p q : Tmp} {t1 t2 : TypeId} (h : fn.results = #[.cell p t1, .cell q t2]) (tmps : Array Value) (P : Program) (w : World) :
    (results fn tmps).run P w =
      ((asAddr (tmps.getD p undef)).run P w).andThen fun a w1 => ((loadVar t1 a).run P w1).andThen fun x w2 => ((asAddr (tmps.getD q undef)).run P w2).andThen fun b w3 => ((loadVar t2 b).run P w3).andThen fun y w4 => .ok (.tuple #[x, y]) w4 := by
  simp only [results, h]
  simp [Sem.run_bind, Result.andThen]
theorem results_row_row {P : Program} {fn : Func} {p q : Tmp} {t1 t2 : TypeId} (h : fn.results = #[.cell p t1, .cell q t2]) (tmps : Array Value) (w : World) (g1 g2 : Nat) (s1 s2 : TypeId) (c1 c2 : Array Value) (f1 f2 : Nat × Nat) (d1 d2 : TypeDesc)
    (hp : tmps.getD p undef = .pointer (some ⟨g1, 0, none⟩)) (hg1 : w.heap[g1]? = some (.cells c1 s1 f1))
    (hu1 : P.underlying t1 = some d1) (hd1 : (match d1 with | .struct _ | .array _ _ => true | _ => false) = true) (hi1 : (P.info? t1).map (·.size) = some c1.size)
    (hq : tmps.getD q undef = .pointer (some ⟨g2, 0, none⟩)) (hg2 : w.heap[g2]? = some (.cells c2 s2 f2))
    (hu2 : P.underlying t2 = some d2) (hd2 : (match d2 with | .struct _ | .array _ _ => true | _ => false) = true) (hi2 : (P.info? t2).map (·.size) = some c2.size) :
    (results fn tmps).run P w = .ok (.tuple #[.agg c1, .agg c2]) w := by
  rw [results_cell_cell h, hp, hq]
  simp [asAddr, run_loadVar_row w g1 s1 t1 c1 f1 d1 hg1 hu1 hd1 hi1, run_loadVar_row w g2 s2 t2 c2 f2 d2 hg2 hu2 hd2 hi2, Result.andThen]
theorem resRSize : (Tryz.prog.info? 37).map (·.size) = some 3 := by kernel_rfl
theorem wrongSize : (Tryz.prog.info? 40).map (·.size) = some 2 := by kernel_rfl
/-- What the document's merge answers: its rows, or what is wrong. -/
def RMergedTo (fs : List Fl) (es : List En) (cs : List ByteArray) (w : World) (e : Ending) (w' : World) : Prop :=
  (wayV fs = none ∧ ∃ vf ve vc, e = .returned (.tuple #[.agg #[vf, ve, vc], .agg #[.slice none 0 0, .int .i64 0]]) ∧ w'.ownsRow w.heap.size 52 3 vf fs.length (fs.flatMap cF) ∧ w'.ownsRow w.heap.size 69 6 ve es.length (es.flatMap cE) ∧ w'.ownsRow w.heap.size 9 1 vc cs.length (cs.map Value.string) ∧ Below w.heap.size w w') ∨
  ∃ i k g, wayV fs = some (i, k) ∧ e = .returned (.tuple #[.agg #[.slice none 0 0, .slice none 0 0, .slice none 0 0], wrongG g k]) ∧ w.heap.size ≤ g ∧ Blk w' g 82 #[.string bFile, .int .i64 i] ∧ Below w.heap.size w w'
theorem row3R {w : World} {g : Nat} {cs : Array Value} (h : Blk w g 37 cs) (hs : cs.size = 3) (a b c : Value) : Blk (((w.setCell ⟨g, 0, none⟩ a).setCell ⟨g, 1, none⟩ b).setCell ⟨g, 2, none⟩ c) g 37 #[a, b, c] := by
  have := ((h.set_ 0 a).set_ 1 b).set_ 2 c
  match cs, hs with
  | ⟨[x, y, z]⟩, _ => simpa using this
theorem row352 {w : World} {g : Nat} {cs : Array Value} (h : Blk w g 52 cs) (hs : cs.size = 3) (a b c : Value) : Blk (((w.setCell ⟨g, 0, none⟩ a).setCell ⟨g, 1, none⟩ b).setCell ⟨g, 2, none⟩ c) g 52 #[a, b, c] := by
  have := ((h.set_ 0 a).set_ 1 b).set_ 2 c
  match cs, hs with
  | ⟨[x, y, z]⟩, _ => simpa using this
theorem fileA_flZ (X : Option Fl) : fileA X = #[.string (flZ X).1, .int .i64 (flZ X).2.1, .string (flZ X).2.2] := by cases X <;> rfl
theorem res_end {W : World} {g : Nat} {c1 c2 : Array Value} (h1 : Blk W g 37 c1) (s1 : c1.size = 3) (h2 : Blk W (g + 1) 40 c2) (s2 : c2.size = 2) (a b c d e : Value) :
    Blk (((((W.setCell ⟨g, 0, none⟩ a).setCell ⟨g, 1, none⟩ b).setCell ⟨g, 2, none⟩ c).setCell ⟨g + 1, 0, none⟩ d).setCell ⟨g + 1, 1, none⟩ e) g 37 #[a, b, c] ∧
    Blk (((((W.setCell ⟨g, 0, none⟩ a).setCell ⟨g, 1, none⟩ b).setCell ⟨g, 2, none⟩ c).setCell ⟨g + 1, 0, none⟩ d).setCell ⟨g + 1, 1, none⟩ e) (g + 1) 40 #[d, e] ∧
    (∀ B w, B ≤ g → Below B w W → Below B w (((((W.setCell ⟨g, 0, none⟩ a).setCell ⟨g, 1, none⟩ b).setCell ⟨g, 2, none⟩ c).setCell ⟨g + 1, 0, none⟩ d).setCell ⟨g + 1, 1, none⟩ e)) ∧
    (∀ j, j ≠ g → j ≠ g + 1 → (((((W.setCell ⟨g, 0, none⟩ a).setCell ⟨g, 1, none⟩ b).setCell ⟨g, 2, none⟩ c).setCell ⟨g + 1, 0, none⟩ d).setCell ⟨g + 1, 1, none⟩ e).heap[j]? = W.heap[j]?) := by
  refine ⟨((row3R h1 s1 a b c).far (p := ⟨g + 1, 0, none⟩) (show g ≠ g + 1 by omega) d).far (p := ⟨g + 1, 1, none⟩) (show g ≠ g + 1 by omega) e, ?_, ?_, ?_⟩
  · have h3 := ((h2.far (p := ⟨g, 0, none⟩) (show g + 1 ≠ g by omega) a).far (p := ⟨g, 1, none⟩) (show g + 1 ≠ g by omega) b).far (p := ⟨g, 2, none⟩) (show g + 1 ≠ g by omega) c
    have h4 := (h3.set_ 0 d).set_ 1 e
    match c2, s2 with
    | ⟨[x, y]⟩, _ => simpa using h4
  · intro B w hB hb
    exact ((((hb.setCell (p := ⟨g, 0, none⟩) hB a).setCell (p := ⟨g, 1, none⟩) hB b).setCell (p := ⟨g, 2, none⟩) hB c).setCell (p := ⟨g + 1, 0, none⟩) (Nat.le_succ_of_le hB) d).setCell (p := ⟨g + 1, 1, none⟩) (Nat.le_succ_of_le hB) e
  · intro j h3 h4
    exact (Below.heap_setCell _ ⟨g + 1, 1, none⟩ e j h4).trans ((Below.heap_setCell _ ⟨g + 1, 0, none⟩ d j h4).trans (heap3 W h3 a b c))
theorem own5 {w : World} {B B' k n g : Nat} {e : TypeId} {v : Value} {xs : List Value} (h : w.ownsRow B e k v n xs) (hg : g < B) (hg1 : g + 1 < B) (hb : B' ≤ B) (a b c d e' : Value) : (((((w.setCell ⟨g, 0, none⟩ a).setCell ⟨g, 1, none⟩ b).setCell ⟨g, 2, none⟩ c).setCell ⟨g + 1, 0, none⟩ d).setCell ⟨g + 1, 1, none⟩ e').ownsRow B' e k v n xs := by
  obtain ⟨h1, h2⟩ := own_set (own_set (own_set (own_set (own_set h hg 0 a) hg 1 b) hg 2 c) hg1 0 d) hg1 1 e'
  exact ⟨h1, h2.imp id fun ⟨g, cap, cur, a, b, r⟩ => ⟨g, cap, cur, a, Nat.le_trans hb b, r⟩⟩
set_option maxRecDepth 100000 in
set_option maxHeartbeats 8000000 in
theorem refMerge_any (w : World) (vb vo vt : Value) (b o t : List Fl) (a n : ByteArray) (hb : Reads 3 cF w vb b) (ho : Reads 3 cF w vo o) (ht : Reads 3 cF w vt t) (kb : chkF b = none) (ko : chkF o = none) (kt : chkF t = none) (sb : SizedD b) (so : SizedD o) (st : SizedD t)
    (x : ByteArray → TxO) (hT : ∀ p, p ∈ pathsP b o t → getF o p ≠ getF t p → getF b p ≠ getF t p → getF b p ≠ getF o p → ∀ W, RefSays (x p) (sD (getF b p)) (sD (getF o p)) (sD (getF t p)) a n W) (hx : ∀ p s k, x p = some (s, k) → k ≤ 1000000 ∧ s.size ≤ 1000000000) :
    Calls Tryz.prog 11 #[vb, vo, vt, .string a, .string n] w (RMergedTo (mrgF (fun p => oneV (x p) p (getF b p) (getF o p) (getF t p)) (pathsP b o t)) (mrgE (fun p => oneV (x p) p (getF b p) (getF o p) (getF t p)) (fun p => entV p (getF b p) (getF o p) (getF t p)) (pathsP b o t)) (mrgC (fun p => oneV (x p) p (getF b p) (getF o p) (getF t p)) (pathsP b o t)) w) := by
  have lb := chkF_len kb
  have lo := chkF_len ko
  have lt := chkF_len kt
  obtain ⟨Ab, cb, rfl⟩ := hb.form
  obtain ⟨Ao, co, rfl⟩ := ho.form
  obtain ⟨At, ct, rfl⟩ := ht.form
  obtain ⟨g0, hg0⟩ : ∃ g, g = w.heap.size := ⟨_, rfl⟩
  obtain ⟨w1, hw1⟩ : ∃ W, W = (w.alloc (.cells #[.slice none 0 0, .slice none 0 0, .slice none 0 0] 37)).alloc (.cells #[.slice none 0 0, .int .i64 0] 40) := ⟨_, rfl⟩
  have B1 : Below w.heap.size w w1 := by rw [hw1]; exact ((Below.refl _ _).alloc (Nat.le_refl _) _).alloc (by simp) _
  have z1 : w1.heap.size = g0 + 2 := by rw [hw1, hg0]; simp
  have G1 : Blk w1 g0 37 #[.slice none 0 0, .slice none 0 0, .slice none 0 0] := by rw [hw1, hg0]; exact (Blk.new w 37 _).alloc _
  have Q1 : Blk w1 (g0 + 1) 40 #[.slice none 0 0, .int .i64 0] := by
    have h := Blk.new (w.alloc (.cells #[.slice none 0 0, .slice none 0 0, .slice none 0 0] 37)) 40 #[.slice none 0 0, .int .i64 0]
    rw [show (w.alloc (.cells #[.slice none 0 0, .slice none 0 0, .slice none 0 0] 37)).heap.size = g0 + 1 by rw [hg0]; simp, ← hw1] at h
    exact h
  have TR0 := trees3R w1 _ _ _ b o t (hb.below B1) (ho.below B1) (ht.below B1)
  obtain ⟨w2, hw2⟩ : ∃ W, W = w1.alloc (.cells #[.slice Ab b.length cb, .slice Ao o.length co, .slice At t.length ct] 34) := ⟨_, rfl⟩
  rw [z1, ← hw2] at TR0
  have G2 := Lib.hid (show Blk w2 g0 37 _ by rw [hw2]; exact G1.alloc _)
  have Q2 := Lib.hid (show Blk w2 (g0 + 1) 40 _ by rw [hw2]; exact Q1.alloc _)
  have B2 := Lib.hid (show Below w.heap.size w w2 by rw [hw2]; exact B1.alloc B1.size _)
  have TR := Lib.hid TR0
  have Z2 := Lib.hid (show w2.heap.size = g0 + 3 by rw [hw2]; simp [z1])
  obtain ⟨rs, hrs⟩ : ∃ rs, rs = [(Value.slice Ab b.length cb, b), (Value.slice Ao o.length co, o), (Value.slice At t.length ct, t)] := ⟨_, rfl⟩
  have RR := Lib.hid (show ∀ (i : Nat) (r : Value × List Fl), rs[i]? = some r → chkF r.2 = none ∧ SizedD r.2 ∧ r.2.length ≤ 100000 from fun i r hr => by
    have : r ∈ rs := List.mem_of_getElem? hr
    rw [hrs] at this
    simp at this
    rcases this with rfl | rfl | rfl
    · exact ⟨kb, sb, by dsimp only; omega⟩
    · exact ⟨ko, so, by dsimp only; omega⟩
    · exact ⟨kt, st, by dsimp only; omega⟩)
  have RS0 := Lib.hid (show ∀ W, Below w.heap.size w W → ∀ (i : Nat) (r : Value × List Fl), rs[i]? = some r → Reads 3 cF W r.1 r.2 from fun W hW i r hr => by
    have : r ∈ rs := List.mem_of_getElem? hr
    rw [hrs] at this
    simp at this
    rcases this with rfl | rfl | rfl
    · exact hb.below hW
    · exact ho.below hW
    · exact ht.below hW)
  have HPR := Lib.hid (show nrm (pathsR rs) = pathsP b o t by rw [hrs]; exact pathsP_eq _ _ _ b o t)
  have HPL := Lib.hid (show (pathsR rs).length ≤ 100000 by rw [hrs]; simp [pathsR]; omega)
  have HES := Lib.hid (show ∀ p, entR p rs 3 = entV p (getF b p) (getF o p) (getF t p) from fun p => by rw [entR_snoc, entR_snoc, entR_snoc, hrs]; simp [entR, entV, atR])
  have HL := Lib.hid (show rs.length = 3 by rw [hrs]; rfl)
  rw [← hrs] at TR
  have RD := Lib.hid (And.intro hb (And.intro ho ht))
  have LN := Lib.hid (And.intro lb (And.intro lo lt))
  obtain ⟨P, hP⟩ : ∃ P, P = pathsP b o t := ⟨_, rfl⟩
  rw [← hP] at hT HPR ⊢
  have PL := Lib.hid (show P.length ≤ 192 by rw [hP]; have := pathsP_len b o t; omega)
  obtain ⟨F, hF⟩ : ∃ F : OneF, F = fun p => oneV (x p) p (getF b p) (getF o p) (getF t p) := ⟨_, rfl⟩
  obtain ⟨E, hE⟩ : ∃ E : ByteArray → List En, E = fun p => entV p (getF b p) (getF o p) (getF t p) := ⟨_, rfl⟩
  rw [← hF, ← hE]
  have HF := Lib.hid (show ∀ p, oneV (x p) p (getF b p) (getF o p) (getF t p) = F p from fun p => by rw [hF])
  have HE := Lib.hid (show ∀ p, entR p rs 3 = E p from fun p => by rw [HES.out p, hE])
  have HF2 := Lib.hid (show ∀ p, (F p).2 = true → ∃ f, (F p).1 = some f from fun p h => by rw [hF] at h ⊢; exact oneV_there h)
  have HSZ := Lib.hid (show Sized (mrgF F P) from fun f hf => by
    obtain ⟨p, _, h⟩ := List.mem_filterMap.1 hf
    rw [hF] at h
    exact (oneV_path so st h).2)
  have HE3 := Lib.hid (show ∀ p, (E p).length ≤ 3 from fun p => by rw [hE]; exact entV_len _ _ _ _)
  have HT := Lib.hid hT
  have HX := Lib.hid hx
  have B1h := Lib.hid B1
  have HW1 := Lib.hid hw1
  have HW2 := Lib.hid hw2
  have HG0 := Lib.hid hg0
  have Z1 := Lib.hid z1
  clear hP hF hE hrs hb ho ht lb lo lt kb ko kt sb so st hT hx B1 G1 Q1 TR0 hw1 hw2 hg0 z1 HES
  go_enter Tryz.func11, Tryz.ntmps11
  go_wp2_with fail
  rw [← HG0.out, ← HW1.out, ← HW2.out, show g0 + 1 + 1 = g0 + 2 from rfl]
  clear HW1 HW2
  go_loopw [13, 14] (fun s13 _ wr => ∃ k : Nat, k ≤ 3 ∧ s13 = .int .i64 k ∧ Hid (Below w2.heap.size w2 wr)) (fun s13 _ _ => 3 - (intOf s13).toNat)
  case atStart => exact ⟨0, Nat.zero_le _, rfl, Lib.hid (Below.refl _ _)⟩
  case round =>
    obtain ⟨k, hk, rfl, HB⟩ := hrel
    have k0 : (0 : Int) ≤ (k : Int) := Int.natCast_nonneg _
    by_cases hlt : k < 3
    · obtain ⟨r, hr⟩ : ∃ r, rs[k]? = some r := ⟨_, List.getElem?_eq_getElem (by rw [HL.out]; exact hlt)⟩
      have c0 := ((TR.out.below HB.out) k r hr).1
      have hrd := ((TR.out.below HB.out) k r hr).2
      have hq := RR.out k r hr
      obtain ⟨rv, l⟩ := r
      dsimp only at hrd hq c0
      rw [add_zero_off] at c0
      have CK := Lib.hid (refCheckF_any wr rv l hrd hq.2.1 hq.2.2)
      rw [hq.1] at CK
      obtain ⟨A, c, rfl⟩ := hrd.form
      have hk3 : (k : Int) < 3 := by omega
      clear hr hrd hq
      go_wp2_with fail
      refine CK.out.mono ?_
      rintro e w3 (⟨_, rfl, b3⟩ | ⟨_, _, _, hn, _⟩)
      · have B3 := Lib.hid ((HB.out.trans (b3.mono HB.out.size)).alloc (Nat.le_trans HB.out.size b3.size) (.cells #[.slice none 0 0, .int .i64 0] 40))
        clear b3 CK c0
        go_wp2
        go_roundw
        case rel => exact ⟨k + 1, by omega, by go_num, B3⟩
        case measure => simp [intOf]; omega
      · cases hn
    · obtain rfl : k = 3 := by omega
      have B4 := Lib.hid (B2.out.trans (HB.out.mono B2.out.size))
      have G4 := Lib.hid (G2.out.below HB.out G2.out.lt)
      have Q4 := Lib.hid (Q2.out.below HB.out Q2.out.lt)
      have T4 := Lib.hid (TR.out.below HB.out)
      have hsz := HB.out.size
      clear hlt hk k0 HB
      obtain ⟨gB, hgB⟩ : ∃ g, g = wr.heap.size := ⟨_, rfl⟩
      obtain ⟨w5, hw5⟩ : ∃ W, W = wr.alloc (.cells #[.slice none 0 0, .slice none 0 0, .slice none 0 0] 37) := ⟨_, rfl⟩
      have SB := Lib.hid (show w.heap.size ≤ gB by rw [hgB]; exact B4.out.size)
      have RW := Lib.hid fun W (hW : Below w.heap.size w W) => (⟨RD.out.1.below hW, RD.out.2.1.below hW, RD.out.2.2.below hW⟩ : Reads 3 cF W (.slice Ab b.length cb) b ∧ Reads 3 cF W (.slice Ao o.length co) o ∧ Reads 3 cF W (.slice At t.length ct) t)
      have B5 := Lib.hid (show Below w.heap.size w w5 by rw [hw5]; exact B4.out.alloc B4.out.size _)
      have X5 := Lib.hid (show Blk w5 gB 37 #[.slice none 0 0, .slice none 0 0, .slice none 0 0] by rw [hw5, hgB]; exact Blk.new wr 37 _)
      have G5 := Lib.hid (show Blk w5 g0 37 _ by rw [hw5]; exact G4.out.alloc _)
      have Q5 := Lib.hid (show Blk w5 (g0 + 1) 40 _ by rw [hw5]; exact Q4.out.alloc _)
      have T5 := Lib.hid (show Trees w5 ⟨g0 + 2, 0, none⟩ rs by rw [hw5]; exact T4.out.below ((Below.refl _ _).alloc (Nat.le_refl _) _))
      have HGB := Lib.hid (show g0 + 2 < gB by rw [hgB]; have := Z2.out; omega)
      have PA := refPaths_any w5 ⟨g0 + 2, 0, none⟩ 3 rs T5.out (by rw [HL.out]; decide) HPL.out
      rw [HPR.out, HL.out] at PA
      have PA2 := Lib.hid PA
      have HW5 := Lib.hid hw5
      have S5 := Lib.hid (show w5.heap.size = gB + 1 by rw [hw5, hgB]; simp)
      have hgB2 := Lib.hid hgB
      clear PA hw5 hgB T4 B4 G4 Q4 hsz
      go_wp2_with fail
      rw [← hgB2.out, ← HW5.out]
      clear HW5
      refine PA2.out.mono ?_
      rintro e wM ⟨u, rfl, oP, bP⟩
      obtain ⟨AP, cP, rfl⟩ := own_form oP
      obtain ⟨M, hM⟩ : ∃ M, M = wM.heap.size := ⟨_, rfl⟩
      have PC := Lib.hid (show ∀ i p, P[i]? = some p → ∃ g, AP = some ⟨g, 0, none⟩ ∧ g ≠ gB ∧ g < M ∧ wM.cell? ⟨g, i, none⟩ = some (.string p) from fun i p hi => by
        obtain ⟨g, h1, h2, h3, h4⟩ := own_str_at oP hi
        exact ⟨g, h1, by have := S5.out; omega, by rw [hM]; exact h3, h4⟩)
      have MS := Lib.hid (show MStR w wM wM gB M (.slice none 0 0) (.slice none 0 0) (.slice none 0 0) (mrgF F (P.take 0)) (mrgE F E (P.take 0)) (mrgC F (P.take 0)) from
        ⟨X5.out.below bP X5.out.lt, World.ownsRow_nil _ _ _ _, World.ownsRow_nil _ _ _ _, World.ownsRow_nil _ _ _ _, B5.out.trans (bP.mono B5.out.size), fun _ _ _ => rfl, by rw [hM]; exact Nat.le_refl _, by rw [hM]; have := S5.out; have := bP.size; omega, SB.out⟩)
      have G7 := Lib.hid (G5.out.below bP G5.out.lt)
      have Q7 := Lib.hid (Q5.out.below bP Q5.out.lt)
      have T7 := Lib.hid (T5.out.below bP)
      have p0 : (0 : Int) ≤ (P.length : Int) := Int.natCast_nonneg _
      have p192 : (P.length : Int) ≤ 192 := by have := PL.out; omega
      have HMM := Lib.hid hM
      clear PA2 X5 G5 Q5 B5 S5 oP bP hM TR B2 T5
      go_wp2_with fail
      go_loopw [17, 18, 19, 20, 21, 22, 23] (fun s17 _ _ _ _ _ _ wq => ∃ (k : Nat) (vf ve vc : Value), k ≤ P.length ∧ s17 = .int .i64 k ∧ Hid (MStR w wM wq gB M vf ve vc (mrgF F (P.take k)) (mrgE F E (P.take k)) (mrgC F (P.take k)))) (fun s17 _ _ _ _ _ _ _ => P.length - (intOf s17).toNat)
      case atStart => exact ⟨0, _, _, _, Nat.zero_le _, rfl, MS⟩
      case round =>
        obtain ⟨k, vf, ve, vc, hk, rfl, HM⟩ := hrel
        have k0 : (0 : Int) ≤ (k : Int) := Int.natCast_nonneg _
        by_cases hlt : k < P.length
        · obtain ⟨p, hp⟩ : ∃ p, P[k]? = some p := ⟨_, List.getElem?_eq_getElem hlt⟩
          obtain ⟨gP, rfl, hne, hgM, hc⟩ := PC.out k p hp
          have c0 : wr.cell? ⟨gP, k, none⟩ = some (.string p) := (cell_heap (HM.out.k gP hgM hne)).trans hc
          have hk1 : (k : Int) < (P.length : Int) := by omega
          have hRW := RW.out _ HM.out.b
          have ON := refOne_any wr p _ _ _ b o t a n hRW.1 hRW.2.1 hRW.2.2 (by have := LN.out; omega) (by have := LN.out; omega) (by have := LN.out; omega) (x p) (fun e1 e2 e3 _ => HT.out p (List.mem_of_getElem? hp) e1 e2 e3) (HX.out p)
          rw [HF.out p] at ON
          unfold OneTold at ON
          have ON1 := Lib.hid ON
          have SF := Lib.hid (mrgF_snoc F hp)
          have SC := Lib.hid (mrgC_snoc F hp)
          have SE := Lib.hid (mrgE_snoc F E hp)
          have LF := Lib.hid (show (mrgF F (P.take k)).length ≤ 192 by have h := mrgF_len F (P.take k); rw [List.length_take] at h; have := PL.out; omega)
          have LC := Lib.hid (show (mrgC F (P.take k)).length ≤ 192 by have h := mrgC_len F (P.take k); rw [List.length_take] at h; have := PL.out; omega)
          have LE := Lib.hid (show (mrgE F E (P.take k)).length ≤ 600 by have h := mrgE_len F E HE3.out (P.take k); rw [List.length_take] at h; have := PL.out; omega)
          have T2 := Lib.hid (HF2.out p)
          obtain ⟨fs, hfs⟩ : ∃ l, l = mrgF F (P.take k) := ⟨_, rfl⟩
          obtain ⟨es, hes⟩ : ∃ l, l = mrgE F E (P.take k) := ⟨_, rfl⟩
          obtain ⟨cs, hcs⟩ : ∃ l, l = mrgC F (P.take k) := ⟨_, rfl⟩
          rw [← hfs] at HM SF LF
          rw [← hes] at HM SE LE
          rw [← hcs] at HM SC LC
          obtain ⟨r, hr⟩ : ∃ r, r = F p := ⟨_, rfl⟩
          rw [← hr] at ON1 SF SC SE T2
          have HCM := Lib.hid (show ∀ W vf' ve' vc' fs' es' cs', MStR w wM W gB M vf' ve' vc' fs' es' cs' → W.cell? ⟨gP, k, none⟩ = some (.string p) from fun W _ _ _ _ _ _ h => (cell_heap (h.k gP hgM hne)).trans hc)
          clear ON hp hc hne hgM hRW hr hfs hes hcs
          have HLT := Lib.hid hlt
          go_upto_region 14 with (go_at_call 17; refine ON1.out.mono ?_; rintro e w2 ⟨rfl, b2⟩; have M2 := Lib.hid (HM.out.below b2); have B2 := Lib.hid b2.size; clear b2)
          obtain ⟨r1, r2⟩ := r
          dsimp only at SF SC SE T2
          have M3 := Lib.hid (M2.out.alloc (.cells (fileA r1) 52))
          have Z3 := Lib.hid (Blk.new w2 52 (fileA r1))
          have hz2 : ∃ z, z = w2.heap.size := ⟨_, rfl⟩
          obtain ⟨z, hz⟩ := hz2
          rw [← hz] at Z3 ⊢
          clear hz B2 M2 HM c0
          generalize hW3 : w2.alloc (.cells (fileA r1) 52) = w3 at *
          clear hW3
          cases r1 with
          | none =>
            cases r2 with
            | true => obtain ⟨f, hf⟩ := T2.out rfl; cases hf
            | false =>
              have SF' := Lib.hid (SF.out.trans (List.append_nil fs))
              have SC' := Lib.hid (SC.out.trans (List.append_nil cs))
              have SE' := Lib.hid (SE.out.trans (List.append_nil es))
              clear SF SC SE
              go_wp2
              go_roundw
              case rel => exact ⟨k + 1, _, _, _, by have := HLT.out; omega, by go_num, Lib.hid (by rw [SF'.out, SC'.out, SE'.out]; exact M3.out)⟩
              case measure => have := HLT.out; simp [intOf]; omega
          | some fl =>
            have z0 := Z3.out.cell 0
            have z1 := Z3.out.cell 1
            have z2 := Z3.out.cell 2
            have x0 := M3.out.x.cell 0
            have M4 := Lib.hid (M3.out.alloc (.cells #[.string fl.1, .int .i64 fl.2.1, .string fl.2.2] 52))
            have R4 := Lib.hid (reads_one_file52 fl (Blk.new w3 52 #[.string fl.1, .int .i64 fl.2.1, .string fl.2.2]))
            obtain ⟨Af, cf, hvf⟩ := own_form M3.out.f
            subst hvf
            go_upto_region 16 with (at_builtin; go_loud (refine wpList_append_filesR (w3.alloc (.cells #[.string fl.1, .int .i64 fl.2.1, .string fl.2.2] 52)) rfl (.tmp 69) (.tmp 71) rfl M _ fs [fl] rfl M4.out.f _ _ _ rfl R4.out (by have := LF.out; simp; omega) M4.out.s ?_; intro A' c' w5 o5 b5 g5; have x5 := (b5.block gB M4.out.g).trans M4.out.x; have y0 := Blk.cell x5 0; have q0 := Blk.frozen x5 0; have M5 := Lib.hid (show MStR w wM (w5.setCell ⟨gB, 0, none⟩ (.slice A' (fs.length + 1) c')) gB M (.slice A' (fs.length + 1) c') ve vc (fs ++ [fl]) es cs from (by have h := M4.out.putF o5 b5 g5; rw [show (fs ++ [fl]).length = fs.length + 1 from (by simp)] at h; exact h)); clear o5 b5 g5 x5))
            clear x0 z0 z1 z2 y0 q0 M4 R4 M3 Z3
            generalize hW6 : w5.setCell ⟨gB, 0, none⟩ (.slice A' (fs.length + 1) c') = w6 at *
            clear hW6
            obtain ⟨vF, hvF⟩ : ∃ v, v = Value.slice A' (fs.length + 1) c' := ⟨_, rfl⟩
            rw [← hvF] at M5
            clear hvF
            cases r2 with
            | false =>
              have SF' := Lib.hid (show mrgF F (P.take (k + 1)) = fs ++ [fl] from SF.out)
              have SC' := Lib.hid (SC.out.trans (List.append_nil cs))
              have SE' := Lib.hid (SE.out.trans (List.append_nil es))
              clear SF SC SE
              go_wp2
              go_roundw
              case rel => exact ⟨k + 1, _, _, _, by have := HLT.out; omega, by go_num, Lib.hid (by rw [SF'.out, SC'.out, SE'.out]; exact M5.out)⟩
              case measure => have := HLT.out; simp [intOf]; omega
            | true =>
              have SF' := Lib.hid (show mrgF F (P.take (k + 1)) = fs ++ [fl] from SF.out)
              have SC' := Lib.hid (show mrgC F (P.take (k + 1)) = cs ++ [p] from SC.out)
              have SE' := Lib.hid (show mrgE F E (P.take (k + 1)) = es ++ E p from SE.out)
              clear SF SC SE
              go_upto_region 17 with fail
              have x2 := M5.out.x.cell 2
              have c6 := HCM.out _ _ _ _ _ _ _ M5.out
              have M6 := M5.out.below (Below.refl w6.heap.size w6).drew
              have x3 := M6.x.cell 2
              have c7 := HCM.out _ _ _ _ _ _ _ M6
              have M7 := Lib.hid ((M5.out.alloc (.cells #[.string p] 9)).below (Below.refl _ (w6.alloc (.cells #[.string p] 9))).drew)
              have x4 := M7.out.x.cell 2
              have R7 := Lib.hid (show Strs (w6.alloc (.cells #[.string p] 9)).drew (.slice (some ⟨w6.heap.size, 0, none⟩) 1 1) [p] from strs_one p (Blk.new w6 9 #[.string p]))
              obtain ⟨Ac, cc, hvc⟩ := own_form M5.out.c
              subst hvc
              clear M6
              go_cut [83] (fun s83 wx => ∃ vC : Value, s83 = vC ∧ Hid (MStR w wM wx gB M vF ve vC (fs ++ [fl]) es (cs ++ [p])))
              case first =>
                go_region_law (first
                  | (refine step_append_strs ((w6.alloc (.cells #[.string p] 9)).drew) rfl (.tmp 77) (.tmp 82) rfl M cs.length _ cs [p] rfl M7.out.c _ 1 _ rfl R7.out (by have := LC.out; omega) M7.out.s ?_; intro A8 m8 c8 w8 o8 b8 g8; obtain rfl := own_len1 o8; have x8 := (b8.block gB M7.out.g).trans M7.out.x; have y0 := Blk.cell x8 2; have q0 := Blk.frozen x8 2; have M8 := Lib.hid (show MStR w wM (w8.setCell ⟨gB, 2, none⟩ (.slice A8 (cs.length + 1) c8)) gB M vF ve (.slice A8 (cs.length + 1) c8) (fs ++ [fl]) es (cs ++ [p]) from (by refine M7.out.putC ?_ b8 g8; rw [show (cs ++ [p]).length = cs.length + 1 from (by simp)]; exact o8)); clear o8 b8 g8 x8))
                all_goals (go_wp2_with fail; go_meet)
                all_goals exact ⟨_, rfl, M8⟩
              case rest =>
                obtain ⟨vC, rfl, M8⟩ := hcut
                clear x2 c6 x3 c7 x4 M7 R7 M5
                have M80 := Lib.hid (show MStR w wM wc gB M vF ve u83 (fs ++ [fl]) (es ++ entR p rs 0) (cs ++ [p]) by have := M8.out; rw [show entR p rs 0 = [] from rfl, List.append_nil]; exact this)
                have gP0 := HCM
                clear M8
                go_wp2_with fail
                go_loopw [21, 22, 23] (fun s21 _ _ wq => ∃ (j : Nat) (vE : Value), j ≤ 3 ∧ s21 = .int .i64 j ∧ Hid (MStR w wM wq gB M vF vE u83 (fs ++ [fl]) (es ++ entR p rs j) (cs ++ [p]))) (fun s21 _ _ _ => 3 - (intOf s21).toNat)
                case atStart => exact ⟨0, _, by omega, rfl, M80⟩
                case round =>
                  obtain ⟨j, vE, hj, rfl, HM⟩ := hrel
                  have j0 : (0 : Int) ≤ (j : Int) := Int.natCast_nonneg _
                  by_cases hj3 : j < 3
                  · obtain ⟨rr, hrr⟩ : ∃ r, rs[j]? = some r := ⟨_, List.getElem?_eq_getElem (by rw [HL.out]; exact hj3)⟩
                    have hrd := RS0.out _ HM.out.b j rr hrr
                    have hq := (RR.out j rr hrr).2.2
                    have HA := Lib.hid (show atR p rs j = getF rr.2 p by unfold atR; rw [hrr]; rfl)
                    have ES := Lib.hid (entR_snoc p rs j)
                    have EL := Lib.hid (entR_len p rs j)
                    rw [HA.out] at ES
                    have c1 := HCM.out _ _ _ _ _ _ _ HM.out
                    have c0 : wr.cell? ⟨g0 + 2, j, none⟩ = some rr.1 := (cell_heap (HM.out.k (g0 + 2) (by have := HGB.out; have := HM.out.g; omega) (by have := HGB.out; omega))).trans (by have := (T7.out j rr hrr).1; rw [add_zero_off] at this; exact this)
                    obtain ⟨rv, l⟩ := rr
                    dsimp only at hrd hq c0 HA ES
                    have GT := Lib.hid fun W (hW : Below wr.heap.size wr W) => refGet_any W rv l p (hrd.below hW) hq
                    obtain ⟨A, c, rfl⟩ := hrd.form
                    have hji : (j : Int) < 3 := by omega
                    have HX2 := Lib.hid (show ∀ f, getF l p = some f → f.1 = p from fun f hf => getF_path hf)
                    obtain ⟨X, hX⟩ : ∃ X, X = getF l p := ⟨_, rfl⟩
                    rw [← hX] at GT ES HX2
                    unfold Got at GT
                    rw [gotV_flZ] at GT
                    have SZ := Lib.hid fun W (hW : Below wr.heap.size wr W) => (⟨(hW.cell (World.block_lt_of_cell? _ _ c0)).trans c0, (hW.cell (World.block_lt_of_cell? _ _ c1)).trans c1⟩ : W.cell? ⟨g0 + 2, j, none⟩ = some (.slice A l.length c) ∧ W.cell? ⟨gP, k, none⟩ = some (.string p))
                    have HC01 := Lib.hid (And.intro c0 c1)
                    have hk9 : (k : Int) < (P.length : Int) := hk1
                    clear hrr hrd hq hX HA c0 c1
                    go_upto_region 21 with fail
                    have d0 : Below wr.heap.size wr wr.drew := (Below.refl _ _).drew
                    have dA : Below wr.heap.size wr (wr.alloc (.cells #[.string ⟨#[]⟩, .int .i64 0, .string ⟨#[]⟩] 52)).drew := ((Below.refl _ _).alloc (Nat.le_refl _) _).drew
                    go_cut [22, 23] (fun s22 s23 wx => ∃ z5 : Nat, s22 = .pointer (some ⟨z5, 0, none⟩) ∧ s23 = .bool X.isSome ∧ Hid (Blk wx z5 52 (fileA X)) ∧ Hid (Below wr.heap.size wr wx))
                    case first =>
                      go_region_held3 (fun w' => w'.cell? ⟨g0 + 2, j, none⟩ = some (.slice A l.length c) ∧ w'.cell? ⟨gP, k, none⟩ = some (.string p)) (first | exact SZ.out _ d0 | exact SZ.out _ dA | exact SZ.out _ bz | exact SZ.out _ (bz.alloc bz.size (.cells #[.string (flZ X).1, .int .i64 (flZ X).2.1, .string (flZ X).2.2] 52)) | exact SZ.out _ (bz.alloc bz.size (.cells #[.string ⟨#[]⟩, .int .i64 0, .string ⟨#[]⟩] 52)) | exact SZ.out _ (((bz.setCell (p := ⟨wr.heap.size, 0, none⟩) (Nat.le_refl _) (.string (flZ X).1)).setCell (p := ⟨wr.heap.size, 1, none⟩) (Nat.le_refl _) (.int .i64 (flZ X).2.1)).setCell (p := ⟨wr.heap.size, 2, none⟩) (Nat.le_refl _) (.string (flZ X).2.2)))
                        (first
                          | (go_at_call 25; refine (GT.out _ dA).mono ?_; rintro e wz ⟨rfl, b9⟩; have bz := dA.trans (b9.mono dA.size); have K9 := (show Blk (wr.alloc (.cells #[.string ⟨#[]⟩, .int .i64 0, .string ⟨#[]⟩] 52)).drew wr.heap.size 52 #[.string ⟨#[]⟩, .int .i64 0, .string ⟨#[]⟩] from Blk.new wr 52 _).below b9 (by simp); have y0 := K9.cell 0; have y1 := K9.cell 1; have y2 := K9.cell 2; have q0 := K9.frozen 0; have q1 := K9.frozen 1; have q2 := K9.frozen 2)
                          | (go_at_call 25; refine (GT.out _ d0).mono ?_; rintro e wz ⟨rfl, b9⟩; have bz := d0.trans (b9.mono d0.size)))
                      all_goals (go_wp2_with fail; go_meet)
                      all_goals first
                        | exact ⟨wr.heap.size, rfl, rfl, Lib.hid (by rw [fileA_flZ]; exact row352 K9 rfl _ _ _), Lib.hid (((bz.setCell (p := ⟨wr.heap.size, 0, none⟩) (Nat.le_refl _) _).setCell (p := ⟨wr.heap.size, 1, none⟩) (Nat.le_refl _) _).setCell (p := ⟨wr.heap.size, 2, none⟩) (Nat.le_refl _) _)⟩
                        | exact ⟨wz.heap.size, rfl, rfl, Lib.hid (by rw [fileA_flZ]; exact Blk.new wz 52 _), Lib.hid (bz.alloc bz.size _)⟩
                    case rest =>
                      obtain ⟨z5, rfl, rfl, HZ5, HB5⟩ := hcut
                      have M9 := Lib.hid (HM.out.below HB5.out)
                      have HX3 := HX2
                      clear HM GT SZ HC01 d0 dA HB5
                      cases X with
                      | none =>
                        have HN := Lib.hid (show entR p rs (j + 1) = entR p rs j by rw [ES.out]; simp [entP])
                        clear ES HX2 HX3
                        go_wp2
                        go_roundw
                        case rel => exact ⟨j + 1, _, by omega, by go_num, Lib.hid (by rw [HN.out]; exact M9.out)⟩
                        case measure => simp [intOf]; omega
                      | some f =>
                        obtain ⟨fp, fm, fd⟩ := f
                        have HFP := Lib.hid (show fp = p from HX3.out _ rfl)
                        have HS := Lib.hid (show entR p rs (j + 1) = entR p rs j ++ [(fp, (j : Int) + 1, fm, fd, 0, 0)] by rw [ES.out, HFP.out, Int.add_comm]; rfl)
                        have z0 := HZ5.out.cell 0
                        have z1 := HZ5.out.cell 1
                        have z2 := HZ5.out.cell 2
                        have x1 := M9.out.x.cell 1
                        obtain ⟨eN, hEN⟩ : ∃ l, l = es ++ entR p rs j := ⟨_, rfl⟩
                        have LEN := Lib.hid (show eN.length ≤ 603 by rw [hEN, List.length_append]; have := LE.out; have := EL.out; omega)
                        rw [← hEN] at M9
                        have HEN := Lib.hid hEN
                        have MA := Lib.hid (M9.out.alloc (.cells #[.string fp, .int .i64 ((j : Int) + 1), .int .i64 fm, .string fd, .int .i64 0, .int .i64 0] 69))
                        have RA := Lib.hid (reads_one_ent69 (fp, (j : Int) + 1, fm, fd, 0, 0) (Blk.new wc 69 #[.string fp, .int .i64 ((j : Int) + 1), .int .i64 fm, .string fd, .int .i64 0, .int .i64 0]))
                        obtain ⟨Ae, ce, hve⟩ := own_form M9.out.e
                        subst hve
                        clear HX2 HX3 ES hEN
                        go_upto_region 20 with (at_builtin; go_loud (refine wpList_append_entsR (wc.alloc (.cells #[.string fp, .int .i64 ((j : Int) + 1), .int .i64 fm, .string fd, .int .i64 0, .int .i64 0] 69)) rfl (.tmp 103) (.tmp 113) rfl M _ eN [(fp, (j : Int) + 1, fm, fd, 0, 0)] rfl MA.out.e _ _ _ rfl RA.out (by have := LEN.out; simp; omega) MA.out.s ?_; intro A' c' w5 o5 b5 g5; have x5 := (b5.block gB MA.out.g).trans MA.out.x; have y0 := Blk.cell x5 1; have q0 := Blk.frozen x5 1; have M5 := Lib.hid (show MStR w wM (w5.setCell ⟨gB, 1, none⟩ (.slice A' (eN.length + 1) c')) gB M vF (.slice A' (eN.length + 1) c') u83 (fs ++ [fl]) (eN ++ [(fp, (j : Int) + 1, fm, fd, 0, 0)]) (cs ++ [p]) from (by have h := MA.out.putE o5 b5 g5; rw [show (eN ++ [(fp, (j : Int) + 1, fm, fd, (0 : Int), (0 : Int))]).length = eN.length + 1 from (by simp)] at h; exact h)); clear o5 b5 g5 x5))
                        clear z0 z1 z2 x1 y0 q0 MA RA M9 HZ5
                        generalize hW6 : w5.setCell ⟨gB, 1, none⟩ (.slice A' (eN.length + 1) c') = w6 at *
                        clear hW6
                        go_wp2
                        go_roundw
                        case rel => exact ⟨j + 1, _, by omega, by go_num, Lib.hid (by rw [HS.out, ← List.append_assoc, ← HEN.out]; exact M5.out)⟩
                        case measure => simp [intOf]; omega
                  · obtain rfl : j = 3 := by omega
                    have M9 := Lib.hid (show MStR w wM wr gB M vF vE u83 (fs ++ [fl]) (es ++ E p) (cs ++ [p]) by have := HM.out; rw [HE.out p] at this; exact this)
                    clear HM
                    go_wp2
                    go_roundw
                    case rel => exact ⟨k + 1, _, _, _, by have := HLT.out; omega, by go_num, Lib.hid (by rw [SF'.out, SC'.out, SE'.out]; exact M9.out)⟩
                    case measure => have := HLT.out; simp [intOf]; omega
        · obtain rfl : k = P.length := by omega
          have HM2 := Lib.hid (show MStR w wM wr gB M vf ve vc (mrgF F P) (mrgE F E P) (mrgC F P) by have := HM.out; rw [List.take_length] at this; exact this)
          have G8 := Lib.hid (show Blk wr g0 37 _ from (HM2.out.k g0 (by have := HGB.out; have := HM2.out.g; omega) (by have := HGB.out; omega)).trans G7.out)
          have Q8 := Lib.hid (show Blk wr (g0 + 1) 40 _ from (HM2.out.k (g0 + 1) (by have := HGB.out; have := HM2.out.g; omega) (by have := HGB.out; omega)).trans Q7.out)
          have FLN := Lib.hid (show (mrgF F P).length ≤ 192 by have := mrgF_len F P; have := PL.out; omega)
          obtain ⟨fs, hfs⟩ : ∃ l, l = mrgF F P := ⟨_, rfl⟩
          rw [← hfs] at HM2 HSZ FLN
          have HFS := Lib.hid hfs
          clear HM hfs PC MS G7 Q7 T7 hk hlt k0 p0 p192
          obtain ⟨Af, cf, hvf⟩ := own_form HM2.out.f
          subst hvf
          have HW := Lib.hid (show w.heap.size ≤ g0 by rw [HG0.out]; exact Nat.le_refl _)
          have AT := Lib.hid fun W (hW : Below wr.heap.size wr W) k y (hy : fs[k]? = some y) => Fils.at_ ((Reads.of_own cF_len HM2.out.f).below hW) hy
          have X0 := Lib.hid fun W (hW : Below wr.heap.size wr W) => (HM2.out.below hW).x.cell 0
          have GQ := Lib.hid fun W (hW : Below wr.heap.size wr W) => (And.intro (G8.out.below hW G8.out.lt) (Q8.out.below hW Q8.out.lt) : Blk W g0 37 _ ∧ Blk W (g0 + 1) 40 _)
          have GL := Lib.hid (And.intro G8.out.lt Q8.out.lt)
          have BW := Lib.hid HM2.out.b
          have fl0 : (0 : Int) ≤ (fs.length : Int) := Int.natCast_nonneg _
          by_cases hlong : 64 < fs.length
          · have HV := Lib.hid (wayV_long hlong)
            have x0 := HM2.out.x.cell 0
            have hli : (64 : Int) < (fs.length : Int) := by omega
            have RT := Lib.hid (refAt_gen bFile 64 4 wr)
            clear hlong
            go_wp2_with fail
            refine RT.out.mono ?_
            rintro e w3 ⟨g, rfl, hg, hgl, b3⟩
            have G9 := (GQ.out _ b3).1
            have Q9 := (GQ.out _ b3).2
            have y0 := G9.cell 0
            have y1 := G9.cell 1
            have y2 := G9.cell 2
            have q0 := G9.frozen 0
            have q1 := G9.frozen 1
            have q2 := G9.frozen 2
            have u0 := Q9.cell 0
            have u1 := Q9.cell 1
            have v0 := Q9.frozen 0
            have v1 := Q9.frozen 1
            have RE := Lib.hid (res_end G9 rfl Q9 rfl (.slice none 0 0) (.slice none 0 0) (.slice none 0 0) (.slice (some ⟨g, 0, none⟩) 1 1) (.int .i64 4))
            have HB3 := Lib.hid (BW.out.trans (b3.mono BW.out.size))
            have HG := Lib.hid (And.intro hg hgl)
            have HBS := Lib.hid BW.out.size
            clear G9 Q9 hg hgl b3 x0
            go_wp2_with fail
            exact bodyPost_ret (results_row_row (fn := Tryz.f11) rfl _ _ g0 (g0 + 1) 37 40 _ _ (0, 0) (0, 0) _ _ rfl RE.out.1 Tryz.underlying37 rfl resRSize rfl RE.out.2.1 Tryz.underlying40 rfl wrongSize) rfl
              (.inr ⟨64, 4, g, by rw [← HFS.out]; exact HV.out, rfl, Nat.le_trans HBS.out HG.out.2, (RE.out.2.2.2 g (by have := HG.out.2; have := GL.out.1; omega) (by have := HG.out.2; have := GL.out.2; omega)).trans HG.out.1, RE.out.2.2.1 _ _ HW.out HB3.out⟩)
          · have HL64 := Lib.hid hlong
            have hli : ¬ (64 : Int) < (fs.length : Int) := by omega
            have hl64 : (fs.length : Int) ≤ 64 := by omega
            clear hlong
            have x0 := HM2.out.x.cell 0
            go_wp2_with fail
            clear x0
            obtain ⟨wF, hwF⟩ : ∃ W, W = wr := ⟨_, rfl⟩
            subst hwF
            go_loopw [24, 25] (fun s24 _ wq => ∃ i : Nat, i ≤ fs.length ∧ s24 = .int .i64 i ∧ Hid (Below wF.heap.size wF wq) ∧ Hid (∀ (j : Nat) (g : Fl), j < i → fs[j]? = some g → clashF (fs.take j) g.1 = false)) (fun s24 _ _ => fs.length - (intOf s24).toNat)
            case atStart => exact ⟨0, Nat.zero_le _, rfl, Lib.hid (Below.refl _ _), Lib.hid fun j g hj => absurd hj (Nat.not_lt_zero _)⟩
            case round =>
              obtain ⟨i, hi, rfl, HB, I⟩ := hrel
              have i0 : (0 : Int) ≤ (i : Int) := Int.natCast_nonneg _
              have x0 := X0.out _ HB.out
              by_cases hil : i < fs.length
              · obtain ⟨f, hf⟩ : ∃ f, fs[i]? = some f := ⟨_, List.getElem?_eq_getElem hil⟩
                have HF0 := Lib.hid hf
                have HSF := Lib.hid (HSZ.out f (List.mem_of_getElem? hf))
                have hii : (i : Int) < (fs.length : Int) := by omega
                have HIL := Lib.hid hil
                obtain ⟨ad0, hA0, _, _, _⟩ := AT.out _ HB.out i f hf
                subst hA0
                clear hf hil hi
                go_wp2_with fail
                clear x0
                go_loopw [25] (fun s25 wq => ∃ k : Nat, k ≤ i ∧ s25 = .int .i64 k ∧ Hid (Below wF.heap.size wF wq) ∧ Hid (clashF (fs.take k) f.1 = false)) (fun s25 _ => i - (intOf s25).toNat)
                case atStart => exact ⟨0, Nat.zero_le _, rfl, HB, Lib.hid rfl⟩
                case round =>
                  obtain ⟨k, hk, rfl, HB2, HCL⟩ := hrel
                  have k0 : (0 : Int) ≤ (k : Int) := Int.natCast_nonneg _
                  by_cases hki : k < i
                  · obtain ⟨y, hy⟩ : ∃ y, fs[k]? = some y := ⟨_, List.getElem?_eq_getElem (by have := HIL.out; omega)⟩
                    obtain ⟨ad1, h1, u0, _, _⟩ := AT.out _ HB2.out k y hy
                    obtain rfl := Option.some.inj h1
                    obtain ⟨ad2, h2, v0, _, _⟩ := AT.out _ HB2.out i f HF0.out
                    obtain rfl := Option.some.inj h2
                    have x0 := X0.out _ HB2.out
                    have hkii : (k : Int) < (i : Int) := by omega
                    have hkl : (k : Int) < (fs.length : Int) := by omega
                    have HSN := Lib.hid (clash_snoc hy f.1)
                    have CX := Lib.hid fun W => refClash_any y.1 f.1 W (HSZ.out y (List.mem_of_getElem? hy)) HSF.out
                    obtain ⟨c, hc⟩ : ∃ c, c = cls y.1.data.toList f.1.data.toList := ⟨_, rfl⟩
                    rw [← hc] at CX HSN
                    rw [HCL.out, Bool.false_or] at HSN
                    clear hy hc h1 h2
                    cases c with
                    | true =>
                      go_wp2_with fail
                      go_quiet ((go_at_call 27; exact Calls.quiet_of_same ((CX.out _).mono fun _ _ h => ⟨h.1, h.2.symm⟩)))
                      have HB3 := Lib.hid (below_drewN HB2.out nq)
                      have RT := Lib.hid (refAt_gen bFile i 11 (wr.drewN nq))
                      have HCT := Lib.hid (clash_more (k := k + 1) (i := i) (by omega) HSN.out)
                      clear x0 u0 v0 CX
                      generalize wr.drewN nq = w4 at *
                      go_wp2_with fail
                      refine RT.out.mono ?_
                      rintro e w3 ⟨g, rfl, hg, hgl, b3⟩
                      have B3 := HB3.out.trans (b3.mono HB3.out.size)
                      have G9 := (GQ.out _ B3).1
                      have Q9 := (GQ.out _ B3).2
                      have y0 := G9.cell 0
                      have y1 := G9.cell 1
                      have y2 := G9.cell 2
                      have q0 := G9.frozen 0
                      have q1 := G9.frozen 1
                      have q2 := G9.frozen 2
                      have u0 := Q9.cell 0
                      have u1 := Q9.cell 1
                      have v0 := Q9.frozen 0
                      have v1 := Q9.frozen 1
                      have RE := Lib.hid (res_end G9 rfl Q9 rfl (.slice none 0 0) (.slice none 0 0) (.slice none 0 0) (.slice (some ⟨g, 0, none⟩) 1 1) (.int .i64 11))
                      have HBB := Lib.hid (BW.out.trans (B3.mono BW.out.size))
                      have HG := Lib.hid (And.intro hg (Nat.le_trans HB3.out.size hgl))
                      have HBS := Lib.hid BW.out.size
                      have HV := Lib.hid (wayV_bad HL64.out (fun j g hj hg => I.out j g hj hg) HF0.out HCT.out)
                      clear G9 Q9 hg hgl b3 B3
                      go_wp2_with fail
                      exact bodyPost_ret (results_row_row (fn := Tryz.f11) rfl _ _ g0 (g0 + 1) 37 40 _ _ (0, 0) (0, 0) _ _ rfl RE.out.1 Tryz.underlying37 rfl resRSize rfl RE.out.2.1 Tryz.underlying40 rfl wrongSize) rfl
                        (.inr ⟨i, 11, g, by rw [← HFS.out]; exact HV.out, rfl, Nat.le_trans HBS.out HG.out.2, (RE.out.2.2.2 g (by have := HG.out.2; have := GL.out.1; omega) (by have := HG.out.2; have := GL.out.2; omega)).trans HG.out.1, RE.out.2.2.1 _ _ HW.out HBB.out⟩)
                    | false =>
                      have HC2 := HSN
                      go_wp2_with fail
                      go_quiet ((go_at_call 27; exact Calls.quiet_of_same ((CX.out _).mono fun _ _ h => ⟨h.1, h.2.symm⟩)))
                      have HB3 := Lib.hid (below_drewN HB2.out nq)
                      go_wp2_with fail
                      go_roundw
                      case rel => exact ⟨k + 1, by omega, by go_num, HB3, HC2⟩
                      case measure => simp [intOf]; omega
                  · obtain rfl : k = i := by omega
                    have HI2 := Lib.hid (show ∀ (j : Nat) (g : Fl), j < k + 1 → fs[j]? = some g → clashF (fs.take j) g.1 = false from fun j g hj hg => by
                      rcases Nat.lt_or_ge j k with e1 | e1
                      · exact I.out j g e1 hg
                      · obtain rfl : j = k := by omega
                        rw [HF0.out] at hg
                        cases hg
                        exact HCL.out)
                    go_wp2_with fail
                    go_roundw
                    case rel => exact ⟨k + 1, by have := HIL.out; omega, by go_num, HB2, HI2⟩
                    case measure => have := HIL.out; simp [intOf]; omega
              · obtain rfl : i = fs.length := by omega
                have HV := Lib.hid (wayV_good HL64.out fun j g hg => I.out j g (List.getElem?_eq_some_iff.1 hg).1 hg)
                have M9 := Lib.hid (HM2.out.below HB.out)
                have G9 := (GQ.out _ HB.out).1
                have Q9 := (GQ.out _ HB.out).2
                obtain ⟨Ae, ce, hve⟩ := own_form M9.out.e
                subst hve
                obtain ⟨Ac, cc, hvc⟩ := own_form M9.out.c
                subst hvc
                have x1 := M9.out.x.cell 1
                have x2 := M9.out.x.cell 2
                have y0 := G9.cell 0
                have y1 := G9.cell 1
                have y2 := G9.cell 2
                have q0 := G9.frozen 0
                have q1 := G9.frozen 1
                have q2 := G9.frozen 2
                have u0 := Q9.cell 0
                have u1 := Q9.cell 1
                have v0 := Q9.frozen 0
                have v1 := Q9.frozen 1
                have RE := Lib.hid (res_end G9 rfl Q9 rfl (.slice Af fs.length cf) (.slice Ae (mrgE F E P).length ce) (.slice Ac (mrgC F P).length cc) (.slice none 0 0) (.int .i64 0))
                have HM3 := Lib.hid (show g0 + 1 < M ∧ g0 < M ∧ w.heap.size ≤ M by have := HW.out; have := M9.out.g; have := HGB.out; omega)
                clear G9 Q9
                go_wp2_with fail
                exact bodyPost_ret (results_row_row (fn := Tryz.f11) rfl _ _ g0 (g0 + 1) 37 40 _ _ (0, 0) (0, 0) _ _ rfl RE.out.1 Tryz.underlying37 rfl resRSize rfl RE.out.2.1 Tryz.underlying40 rfl wrongSize) rfl
                  (.inl ⟨by rw [← HFS.out]; exact HV.out, _, _, _, rfl, by rw [← HFS.out]; exact own5 M9.out.f HM3.out.2.1 HM3.out.1 HM3.out.2.2 _ _ _ _ _, own5 M9.out.e HM3.out.2.1 HM3.out.1 HM3.out.2.2 _ _ _ _ _, own5 M9.out.c HM3.out.2.1 HM3.out.1 HM3.out.2.2 _ _ _ _ _, RE.out.2.2.1 _ _ HW.out M9.out.b⟩)
end Go.Proofs.YtapcnmnnichamaaGreatDoor
