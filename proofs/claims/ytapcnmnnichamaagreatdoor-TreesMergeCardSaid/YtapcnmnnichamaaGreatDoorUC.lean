/-
  tmerge: Merge of three trees that may be.
  merge.Text as tmerge wants it.
  rectolaw16.known is true.
  rectolaw16.known is true: the walk.
  rectolaw14.Few, rectolaw15.Few: whether trees and entries are few, and short.
  TreesSides: where one side is as it was, or both are alike.
-/
import Derived.Test.YtapcnmnnichamaaGreatDoorTB
import Derived.Deep.RegionLaw
import Derived.Test.YtapcnmnnichamaaGreatDoorUY
import Derived.Test.YtapcnmnnichamaaGreatDoorSRow
import Derived.Test.YtapcnmnnichamaaGreatDoorRP
import Derived.Test.YtapcnmnnichamaaGreatDoorFThy

namespace Go.Proofs.YtapcnmnnichamaaGreatDoor
open Go Go.RowKit

theorem oneV_there {o : TxO} {p : ByteArray} {x y z : Option Fl} (h : (oneV o p x y z).2 = true) : ∃ f, (oneV o p x y z).1 = some f := by
  unfold oneV at h ⊢
  by_cases h1 : y = z ∨ x = z
  · rw [if_pos h1] at h; cases h
  rw [if_neg h1] at h ⊢
  by_cases h2 : x = y
  · rw [if_pos h2] at h; cases h
  rw [if_neg h2] at h ⊢
  by_cases h3 : y.isSome = true ∧ z.isSome = true
  · rw [if_pos h3]; exact ⟨_, rfl⟩
  rw [if_neg h3]
  by_cases h4 : y.isSome = true
  · rw [if_pos h4]; exact Option.isSome_iff_exists.1 h4
  rw [if_neg h4]
  cases z with
  | some g => exact ⟨g, rfl⟩
  | none =>
    cases y with
    | none => exact absurd (.inl rfl) h1
    | some g => exact absurd rfl h4
theorem getF_in {l : List Fl} {p : ByteArray} {f : Fl} (h : getF l p = some f) : f ∈ l := List.mem_of_find?_eq_some h
theorem oneV_path {tx : TxO} {p : ByteArray} {x : Option Fl} {o t : List Fl} (so : SizedD o) (st : SizedD t) {f : Fl} (h : (oneV tx p x (getF o p) (getF t p)).1 = some f) : f.1 = p ∧ f.1.size ≤ 1000000 := by
  have ho : ∀ g, getF o p = some g → g.1 = p ∧ g.1.size ≤ 1000000 := fun g hg => ⟨getF_path hg, (so g (getF_in hg)).1⟩
  have ht : ∀ g, getF t p = some g → g.1 = p ∧ g.1.size ≤ 1000000 := fun g hg => ⟨getF_path hg, (st g (getF_in hg)).1⟩
  unfold oneV at h
  split at h
  · exact ho f h
  · split at h
    · exact ht f h
    · split at h
      · rename_i h3
        obtain ⟨g, hg⟩ := Option.isSome_iff_exists.1 h3.1
        have := ho g hg
        obtain rfl := Option.some.inj h
        exact ⟨rfl, by rw [← this.1]; exact this.2⟩
      · split at h
        · exact ho f h
        · exact ht f h
/-- What a merge answers: its rows, or a fault. -/
def MergedTo (fs : List Fl) (es : List En) (cs : List ByteArray) (w : World) (e : Ending) (w' : World) : Prop :=
  (wayV fs = none ∧ ∃ vf ve vc, e = .returned (.tuple #[.agg #[vf, ve, vc], .nilIface]) ∧ w'.ownsRow w.heap.size 49 3 vf fs.length (fs.flatMap cF) ∧ w'.ownsRow w.heap.size 100 6 ve es.length (es.flatMap cE) ∧ w'.ownsRow w.heap.size 9 1 vc cs.length (cs.map Value.string) ∧ Below w.heap.size w w') ∨
  ∃ i k F, wayV fs = some (i, k) ∧ e = .returned (.tuple #[.agg #[.slice none 0 0, .slice none 0 0, .slice none 0 0], .iface 76 (.pointer (some ⟨F, 0, none⟩))]) ∧ w.heap.size ≤ F ∧ FaultOf F bFile i k w' ∧ Below w.heap.size w w'
theorem row3r {w : World} {g : Nat} {cs : Array Value} (h : Blk w g 29 cs) (hs : cs.size = 3) (a b c : Value) : Blk (((w.setCell ⟨g, 0, none⟩ a).setCell ⟨g, 1, none⟩ b).setCell ⟨g, 2, none⟩ c) g 29 #[a, b, c] := by
  have := ((h.set_ 0 a).set_ 1 b).set_ 2 c
  match cs, hs with
  | ⟨[x, y, z]⟩, _ => simpa using this
theorem own3 {w : World} {B B' k n g : Nat} {e : TypeId} {v : Value} {xs : List Value} (h : w.ownsRow B e k v n xs) (hg : g < B) (hb : B' ≤ B) (a b c : Value) : (((w.setCell ⟨g, 0, none⟩ a).setCell ⟨g, 1, none⟩ b).setCell ⟨g, 2, none⟩ c).ownsRow B' e k v n xs := by
  obtain ⟨h1, h2⟩ := own_set (own_set (own_set h hg 0 a) hg 1 b) hg 2 c
  exact ⟨h1, h2.imp id fun ⟨g, cap, cur, a, b, r⟩ => ⟨g, cap, cur, a, Nat.le_trans hb b, r⟩⟩
theorem heap3 (w : World) {g j : Nat} (h : j ≠ g) (a b c : Value) : (((w.setCell ⟨g, 0, none⟩ a).setCell ⟨g, 1, none⟩ b).setCell ⟨g, 2, none⟩ c).heap[j]? = w.heap[j]? :=
  (Below.heap_setCell _ ⟨g, 2, none⟩ c j h).trans ((Below.heap_setCell _ ⟨g, 1, none⟩ b j h).trans (Below.heap_setCell _ ⟨g, 0, none⟩ a j h))
theorem resSize : (Tryz.prog.info? 29).map (·.size) = some 3 := by kernel_rfl
def pathsP (b o t : List Fl) : List ByteArray := nrm (b.map (·.1) ++ o.map (·.1) ++ t.map (·.1))
theorem own_str_at {w : World} {B n c : Nat} {A : Option Addr} {P : List ByteArray} (h : w.ownsRow B 9 1 (.slice A n c) P.length (P.map Value.string)) {i : Nat} {p : ByteArray} (hi : P[i]? = some p) :
    ∃ g, A = some ⟨g, 0, none⟩ ∧ B ≤ g ∧ g < w.heap.size ∧ w.cell? ⟨g, i, none⟩ = some (.string p) := by
  have hl := (List.getElem?_eq_some_iff.1 hi).1
  rcases h.2 with ⟨_, h0⟩ | ⟨g, cap, cur, e, hb, hh, rest⟩
  · omega
  · injection e with e1 e2 e3
    have hob : (Value.slice A n c).ownBlock = some g := by rw [e1]; rfl
    have hc := h.cells hob i (.string p) (by rw [List.getElem?_map, hi]; rfl)
    rw [add_zero_off] at hc
    exact ⟨g, e1, hb, (h.lt g hob).2, hc⟩
theorem cell_heap {w w' : World} {j i : Nat} (h : w'.heap[j]? = w.heap[j]?) : w'.cell? ⟨j, i, none⟩ = w.cell? ⟨j, i, none⟩ := by
  simp only [World.cell?, h]
theorem own_len1 {w : World} {B k n m c : Nat} {e : TypeId} {A : Option Addr} {xs : List Value} (h : w.ownsRow B e k (.slice A m c) n xs) : n = m := by
  obtain ⟨A', c', h2⟩ := own_form h
  injection h2 with _ h3 _
  exact h3.symm
theorem pathsP_eq (vb vo vt : Value) (b o t : List Fl) : nrm (pathsR [(vb, b), (vo, o), (vt, t)]) = pathsP b o t := by
  unfold pathsP pathsR
  simp
theorem pathsP_len (b o t : List Fl) : (pathsP b o t).length ≤ b.length + o.length + t.length := by
  have := nrm_len (b.map (·.1) ++ o.map (·.1) ++ t.map (·.1))
  rw [List.length_append, List.length_append, List.length_map, List.length_map, List.length_map] at this
  exact this
set_option maxRecDepth 100000 in
set_option maxHeartbeats 8000000 in
theorem merge_any (w : World) (vb vo vt : Value) (b o t : List Fl) (a n : ByteArray) (hb : Reads 3 cF w vb b) (ho : Reads 3 cF w vo o) (ht : Reads 3 cF w vt t) (kb : chkF b = none) (ko : chkF o = none) (kt : chkF t = none) (sb : SizedD b) (so : SizedD o) (st : SizedD t)
    (x : ByteArray → TxO) (hT : ∀ p, p ∈ pathsP b o t → getF o p ≠ getF t p → getF b p ≠ getF t p → getF b p ≠ getF o p → ∀ W, TextSays (x p) (sD (getF b p)) (sD (getF o p)) (sD (getF t p)) a n W) (hx : ∀ p s k, x p = some (s, k) → k ≤ 1000000 ∧ s.size ≤ 1000000000) :
    Calls Tryz.prog 10 #[vb, vo, vt, .string a, .string n] w (MergedTo (mrgF (fun p => oneV (x p) p (getF b p) (getF o p) (getF t p)) (pathsP b o t)) (mrgE (fun p => oneV (x p) p (getF b p) (getF o p) (getF t p)) (fun p => entV p (getF b p) (getF o p) (getF t p)) (pathsP b o t)) (mrgC (fun p => oneV (x p) p (getF b p) (getF o p) (getF t p)) (pathsP b o t)) w) := by
  have rb := chkF_rise kb
  have ro := chkF_rise ko
  have rt := chkF_rise kt
  have lb := chkF_len kb
  have lo := chkF_len ko
  have lt := chkF_len kt
  obtain ⟨Ab, cb, rfl⟩ := hb.form
  obtain ⟨Ao, co, rfl⟩ := ho.form
  obtain ⟨At, ct, rfl⟩ := ht.form
  have G0 := Lib.hid (Blk.new w 29 #[.slice none 0 0, .slice none 0 0, .slice none 0 0])
  have TR := Lib.hid (trees3 (w.alloc (.cells #[.slice none 0 0, .slice none 0 0, .slice none 0 0] 29)) _ _ _ b o t (hb.alloc _) (ho.alloc _) (ht.alloc _))
  have B1 := Lib.hid ((Below.refl w.heap.size w).alloc (Nat.le_refl _) (.cells #[.slice none 0 0, .slice none 0 0, .slice none 0 0] 29))
  have B2 := Lib.hid (B1.out.alloc B1.out.size (.cells #[.slice Ab b.length cb, .slice Ao o.length co, .slice At t.length ct] 23))
  have G2 := Lib.hid (G0.out.alloc (.cells #[.slice Ab b.length cb, .slice Ao o.length co, .slice At t.length ct] 23))
  obtain ⟨rs, hrs⟩ : ∃ rs, rs = [(Value.slice Ab b.length cb, b), (Value.slice Ao o.length co, o), (Value.slice At t.length ct, t)] := ⟨_, rfl⟩
  have RR := Lib.hid (show ∀ (i : Nat) (r : Value × List Fl), rs[i]? = some r → chkF r.2 = none ∧ SizedD r.2 ∧ r.2.length ≤ 100000 from fun i r hr => by
    have : r ∈ rs := List.mem_of_getElem? hr
    rw [hrs] at this
    simp at this
    rcases this with rfl | rfl | rfl
    · exact ⟨kb, sb, by dsimp only; omega⟩
    · exact ⟨ko, so, by dsimp only; omega⟩
    · exact ⟨kt, st, by dsimp only; omega⟩)
  have HRS := Lib.hid hrs
  have HL := Lib.hid (show rs.length = 3 by rw [hrs]; rfl)
  rw [← hrs] at TR
  have RD := Lib.hid (And.intro hb (And.intro ho ht))
  have LN := Lib.hid (And.intro lb (And.intro lo lt))
  have RI := Lib.hid (And.intro rb (And.intro ro rt))
  obtain ⟨P, hP⟩ : ∃ P, P = pathsP b o t := ⟨_, rfl⟩
  rw [← hP] at hT ⊢
  have HP := Lib.hid hP
  have PL := Lib.hid (show P.length ≤ 192 by rw [hP]; have := pathsP_len b o t; omega)
  obtain ⟨F, hF⟩ : ∃ F : OneF, F = fun p => oneV (x p) p (getF b p) (getF o p) (getF t p) := ⟨_, rfl⟩
  obtain ⟨E, hE⟩ : ∃ E : ByteArray → List En, E = fun p => entV p (getF b p) (getF o p) (getF t p) := ⟨_, rfl⟩
  rw [← hF, ← hE]
  have HF := Lib.hid (show ∀ p, oneV (x p) p (getF b p) (getF o p) (getF t p) = F p from fun p => by rw [hF])
  have HE := Lib.hid (show ∀ p, entV p (getF b p) (getF o p) (getF t p) = E p from fun p => by rw [hE])
  have HF2 := Lib.hid (show ∀ p, (F p).2 = true → ∃ f, (F p).1 = some f from fun p h => by rw [hF] at h ⊢; exact oneV_there h)
  have HSZ := Lib.hid (show Sized (mrgF F P) from fun f hf => by
    obtain ⟨p, _, h⟩ := List.mem_filterMap.1 hf
    rw [hF] at h
    exact (oneV_path so st h).2)
  have HE3 := Lib.hid (show ∀ p, (E p).length ≤ 3 from fun p => by rw [hE]; exact entV_len _ _ _ _)
  have HT := Lib.hid hT
  have HX := Lib.hid hx
  clear hP hF hE hrs hb ho ht rb ro rt lb lo lt kb ko kt sb so st hT hx
  go_enter Tryz.func10, Tryz.ntmps10
  go_wp2_with fail
  obtain ⟨g0, hg0⟩ : ∃ g, g = w.heap.size := ⟨_, rfl⟩
  have hsz : (w.alloc (.cells #[.slice none 0 0, .slice none 0 0, .slice none 0 0] 29)).heap.size = g0 + 1 := by rw [hg0]; simp
  rw [hsz] at TR
  rw [← hg0] at G2 ⊢
  generalize hW1 : (w.alloc (.cells #[.slice none 0 0, .slice none 0 0, .slice none 0 0] 29)).alloc (.cells #[.slice Ab b.length cb, .slice Ao o.length co, .slice At t.length ct] 23) = w1 at *
  have HG0 := Lib.hid (show g0 = w.heap.size ∧ g0 < w1.heap.size from ⟨hg0, G2.out.lt⟩)
  clear hg0 hW1 hsz G0 B1
  go_loopw [27] (fun s27 wr => ∃ k : Nat, k ≤ 3 ∧ s27 = .int .i64 k ∧ Hid (Below w1.heap.size w1 wr)) (fun s27 _ => 3 - (intOf s27).toNat)
  case atStart => exact ⟨0, Nat.zero_le _, rfl, Lib.hid (Below.refl _ _)⟩
  case round =>
    obtain ⟨k, hk, rfl, HB⟩ := hrel
    have k0 : (0 : Int) ≤ (k : Int) := Int.natCast_nonneg _
    by_cases hlt : k < 3
    · obtain ⟨r, hr⟩ : ∃ r, rs[k]? = some r := ⟨_, List.getElem?_eq_getElem (by rw [HL.out]; exact hlt)⟩
      have c0 := ((TR.out.below HB.out) k r hr).1
      have hrd := ((TR.out.below HB.out) k r hr).2
      have hq := RR.out k r hr
      obtain ⟨rv, l⟩ := r
      dsimp only at hrd hq c0
      rw [add_zero_off] at c0
      have CK := Lib.hid (checkF_any wr rv l hrd hq.2.1 hq.2.2)
      rw [hq.1] at CK
      obtain ⟨A, c, rfl⟩ := hrd.form
      have hk3 : (k : Int) < 3 := by omega
      clear hr hrd hq
      go_wp2_with fail
      refine CK.out.mono ?_
      rintro e w2 (⟨_, rfl, b2⟩ | ⟨_, _, _, hn, _⟩)
      · have B3 := Lib.hid (HB.out.trans (b2.mono HB.out.size))
        clear b2 CK c0
        go_wp2
        go_roundw
        case rel => exact ⟨k + 1, by omega, by go_num, B3⟩
        case measure => simp [intOf]; omega
      · cases hn
    · obtain rfl : k = 3 := by omega
      have B4 := Lib.hid (B2.out.trans (HB.out.mono B2.out.size))
      have G4 := Lib.hid (G2.out.below HB.out G2.out.lt)
      clear hlt hk k0
      obtain ⟨gB, hgB⟩ : ∃ g, g = wr.heap.size := ⟨_, rfl⟩
      have SB := Lib.hid (show w.heap.size ≤ gB by rw [hgB]; exact B4.out.size)
      have hgB2 := Lib.hid hgB
      have RW := Lib.hid fun W (hW : Below w.heap.size w W) => (⟨RD.out.1.below hW, RD.out.2.1.below hW, RD.out.2.2.below hW⟩ : Reads 3 cF W (.slice Ab b.length cb) b ∧ Reads 3 cF W (.slice Ao o.length co) o ∧ Reads 3 cF W (.slice At t.length ct) t)
      have B5 := Lib.hid (B4.out.alloc B4.out.size (.cells #[.slice none 0 0, .slice none 0 0, .slice none 0 0] 29))
      have X5 := Lib.hid ((Blk.new wr 29 #[.slice none 0 0, .slice none 0 0, .slice none 0 0]).alloc (.cells #[.slice Ab b.length cb, .slice Ao o.length co, .slice At t.length ct] 23))
      have G5 := Lib.hid ((G4.out.alloc (.cells #[.slice none 0 0, .slice none 0 0, .slice none 0 0] 29)).alloc (.cells #[.slice Ab b.length cb, .slice Ao o.length co, .slice At t.length ct] 23))
      have B6 := Lib.hid (B5.out.alloc B5.out.size (.cells #[.slice Ab b.length cb, .slice Ao o.length co, .slice At t.length ct] 23))
      have hs5 : (wr.alloc (.cells #[.slice none 0 0, .slice none 0 0, .slice none 0 0] 29)).heap.size = gB + 1 := by rw [hgB]; simp
      have T5 := trees3 (wr.alloc (.cells #[.slice none 0 0, .slice none 0 0, .slice none 0 0] 29)) _ _ _ b o t (RW.out _ B5.out).1 (RW.out _ B5.out).2.1 (RW.out _ B5.out).2.2
      rw [hs5] at T5
      have PA := paths_any _ ⟨gB + 1, 0, none⟩ 3 _ T5 (by simp) (by have := LN.out; simp [pathsR]; omega)
      rw [pathsP_eq, ← HP.out] at PA
      have PA2 := Lib.hid (show Calls Tryz.prog 21 #[.slice (some ⟨gB + 1, 0, none⟩) 3 3] _ _ from PA)
      clear PA T5 hs5
      rw [← hgB] at X5
      have S6 := Lib.hid (show gB < ((wr.alloc (.cells #[.slice none 0 0, .slice none 0 0, .slice none 0 0] 29)).alloc (.cells #[.slice Ab b.length cb, .slice Ao o.length co, .slice At t.length ct] 23)).heap.size by rw [hgB]; simp; omega)
      go_wp2_with fail
      rw [← hgB]
      clear hgB
      refine PA2.out.mono ?_
      rintro e wM ⟨u, rfl, oP, bP⟩
      obtain ⟨AP, cP, rfl⟩ := own_form oP
      obtain ⟨M, hM⟩ : ∃ M, M = wM.heap.size := ⟨_, rfl⟩
      have PC := Lib.hid (show ∀ i p, P[i]? = some p → ∃ g, AP = some ⟨g, 0, none⟩ ∧ g ≠ gB ∧ g < M ∧ wM.cell? ⟨g, i, none⟩ = some (.string p) from fun i p hi => by
        obtain ⟨g, h1, h2, h3, h4⟩ := own_str_at oP hi
        exact ⟨g, h1, by have := S6.out; omega, by rw [hM]; exact h3, h4⟩)
      have MS := Lib.hid (show MSt w wM wM gB M (.slice none 0 0) (.slice none 0 0) (.slice none 0 0) (mrgF F (P.take 0)) (mrgE F E (P.take 0)) (mrgC F (P.take 0)) from
        ⟨X5.out.below bP X5.out.lt, World.ownsRow_nil _ _ _ _, World.ownsRow_nil _ _ _ _, World.ownsRow_nil _ _ _ _, B6.out.trans (bP.mono B6.out.size), fun _ _ _ => rfl, by rw [hM]; exact Nat.le_refl _, by rw [hM]; have := S6.out; have := bP.size; omega, SB.out⟩)
      have G7 := Lib.hid (G5.out.below bP G5.out.lt)
      have p0 : (0 : Int) ≤ (P.length : Int) := Int.natCast_nonneg _
      have p192 : (P.length : Int) ≤ 192 := by have := PL.out; omega
      have HGB := Lib.hid (show g0 < gB by rw [hgB2.out]; exact G4.out.lt)
      clear PA2 X5 G5 B5 B6 S6 oP bP hM B4 G4 HB TR B2
      go_wp2_with fail
      go_loopw [44] (fun s44 wq => ∃ (k : Nat) (vf ve vc : Value), k ≤ P.length ∧ s44 = .int .i64 k ∧ Hid (MSt w wM wq gB M vf ve vc (mrgF F (P.take k)) (mrgE F E (P.take k)) (mrgC F (P.take k)))) (fun s44 _ => P.length - (intOf s44).toNat)
      case atStart => exact ⟨0, _, _, _, Nat.zero_le _, rfl, MS⟩
      case round =>
        obtain ⟨k, vf, ve, vc, hk, rfl, HM⟩ := hrel
        have k0 : (0 : Int) ≤ (k : Int) := Int.natCast_nonneg _
        by_cases hlt : k < P.length
        · obtain ⟨p, hp⟩ : ∃ p, P[k]? = some p := ⟨_, List.getElem?_eq_getElem hlt⟩
          obtain ⟨gP, rfl, hne, hgM, hc⟩ := PC.out k p hp
          have c0 : wr.cell? ⟨gP, k, none⟩ = some (.string p) := (cell_heap (HM.out.k gP hgM hne)).trans hc
          have hk1 : (k : Int) < (P.length : Int) := by omega
          have hRW := RW.out _ HM.out.b
          have ON := one_any wr p _ _ _ b o t a n hRW.1 hRW.2.1 hRW.2.2 RI.out.1 RI.out.2.1 RI.out.2.2 (by have := LN.out; omega) (by have := LN.out; omega) (by have := LN.out; omega) (x p) (HT.out p (List.mem_of_getElem? hp)) (HX.out p)
          rw [HF.out p] at ON
          unfold OneTold at ON
          have ON1 := Lib.hid ON
          have SF := Lib.hid (mrgF_snoc F hp)
          have SC := Lib.hid (mrgC_snoc F hp)
          have SE := Lib.hid (mrgE_snoc F E hp)
          have LF := Lib.hid (show (mrgF F (P.take k)).length ≤ 192 by have h := mrgF_len F (P.take k); rw [List.length_take] at h; have := PL.out; omega)
          have LC := Lib.hid (show (mrgC F (P.take k)).length ≤ 192 by have h := mrgC_len F (P.take k); rw [List.length_take] at h; have := PL.out; omega)
          have LE := Lib.hid (show (mrgE F E (P.take k)).length ≤ 600 by have h := mrgE_len F E HE3.out (P.take k); rw [List.length_take] at h; have := PL.out; omega)
          have T2 := Lib.hid (HF2.out p)
          obtain ⟨fs, hfs⟩ : ∃ l, l = mrgF F (P.take k) := ⟨_, rfl⟩
          obtain ⟨es, hes⟩ : ∃ l, l = mrgE F E (P.take k) := ⟨_, rfl⟩
          obtain ⟨cs, hcs⟩ : ∃ l, l = mrgC F (P.take k) := ⟨_, rfl⟩
          rw [← hfs] at HM SF LF
          rw [← hes] at HM SE LE
          rw [← hcs] at HM SC LC
          obtain ⟨r, hr⟩ : ∃ r, r = F p := ⟨_, rfl⟩
          rw [← hr] at ON1 SF SC SE T2
          clear ON hp hc hne hgM hRW hr hfs hes hcs
          have HLT := Lib.hid hlt
          go_upto_region 13 with (go_at_call 16; refine ON1.out.mono ?_; rintro e w2 ⟨rfl, b2⟩; have M2 := Lib.hid (HM.out.below b2); have B2 := Lib.hid b2.size; clear b2)
          obtain ⟨r1, r2⟩ := r
          dsimp only at SF SC SE T2
          have M3 := Lib.hid (M2.out.alloc (.cells (fileA r1) 49))
          have Z3 := Lib.hid (Blk.new w2 49 (fileA r1))
          have hz2 : ∃ z, z = w2.heap.size := ⟨_, rfl⟩
          obtain ⟨z, hz⟩ := hz2
          rw [← hz] at Z3 ⊢
          clear hz B2 M2 HM
          generalize hW3 : w2.alloc (.cells (fileA r1) 49) = w3 at *
          clear hW3
          cases r1 with
          | none =>
            cases r2 with
            | true => obtain ⟨f, hf⟩ := T2.out rfl; cases hf
            | false =>
              have SF' := Lib.hid (SF.out.trans (List.append_nil fs))
              have SC' := Lib.hid (SC.out.trans (List.append_nil cs))
              have SE' := Lib.hid (SE.out.trans (List.append_nil es))
              clear c0 SF SC SE
              go_wp2
              go_roundw
              case rel => exact ⟨k + 1, _, _, _, by have := HLT.out; omega, by go_num, Lib.hid (by rw [SF'.out, SC'.out, SE'.out]; exact M3.out)⟩
              case measure => have := HLT.out; simp [intOf]; omega
          | some fl =>
            have z0 := Z3.out.cell 0
            have z1 := Z3.out.cell 1
            have z2 := Z3.out.cell 2
            have x0 := M3.out.x.cell 0
            have M4 := Lib.hid (M3.out.alloc (.cells #[.string fl.1, .int .i64 fl.2.1, .string fl.2.2] 49))
            have R4 := Lib.hid (reads_one_file fl (Blk.new w3 49 #[.string fl.1, .int .i64 fl.2.1, .string fl.2.2]))
            obtain ⟨Af, cf, hvf⟩ := own_form M3.out.f
            subst hvf
            go_upto_region 15 with (at_builtin; go_loud (refine wpList_append_files (w3.alloc (.cells #[.string fl.1, .int .i64 fl.2.1, .string fl.2.2] 49)) rfl (.tmp 61) (.tmp 63) rfl M _ fs [fl] rfl M4.out.f _ _ _ rfl R4.out (by have := LF.out; simp; omega) M4.out.s ?_; intro A' c' w5 o5 b5 g5; have x5 := (b5.block gB M4.out.g).trans M4.out.x; have y0 := Blk.cell x5 0; have q0 := Blk.frozen x5 0; have M5 := Lib.hid (show MSt w wM (w5.setCell ⟨gB, 0, none⟩ (.slice A' (fs.length + 1) c')) gB M (.slice A' (fs.length + 1) c') ve vc (fs ++ [fl]) es cs from (by have h := M4.out.putF o5 b5 g5; rw [show (fs ++ [fl]).length = fs.length + 1 from (by simp)] at h; exact h)); clear o5 b5 g5 x5))
            clear x0 z0 z1 z2 y0 q0 M4 R4 M3 Z3 c0
            generalize hW6 : w5.setCell ⟨gB, 0, none⟩ (.slice A' (fs.length + 1) c') = w6 at *
            clear hW6
            obtain ⟨vF, hvF⟩ : ∃ v, v = Value.slice A' (fs.length + 1) c' := ⟨_, rfl⟩
            rw [← hvF] at M5
            clear hvF
            cases r2 with
            | false =>
              have SF' := Lib.hid (show mrgF F (P.take (k + 1)) = fs ++ [fl] from SF.out)
              have SC' := Lib.hid (SC.out.trans (List.append_nil cs))
              have SE' := Lib.hid (SE.out.trans (List.append_nil es))
              clear SF SC SE
              go_wp2
              go_roundw
              case rel => exact ⟨k + 1, _, _, _, by have := HLT.out; omega, by go_num, Lib.hid (by rw [SF'.out, SC'.out, SE'.out]; exact M5.out)⟩
              case measure => have := HLT.out; simp [intOf]; omega
            | true =>
              have SF' := Lib.hid (show mrgF F (P.take (k + 1)) = fs ++ [fl] from SF.out)
              have SC' := Lib.hid (show mrgC F (P.take (k + 1)) = cs ++ [p] from SC.out)
              have SE' := Lib.hid (show mrgE F E (P.take (k + 1)) = es ++ E p from SE.out)
              clear SF SC SE
              have x2 := M5.out.x.cell 2
              have M7 := Lib.hid (M5.out.alloc (.cells #[.string p] 9))
              have R7 := Lib.hid (strs_one p (Blk.new w6 9 #[.string p]))
              obtain ⟨Ac, cc, hvc⟩ := own_form M5.out.c
              subst hvc
              go_upto_region 17 with (at_builtin; go_loud (refine wpList_append_strs (w6.alloc (.cells #[.string p] 9)) rfl (.tmp 68) (.tmp 70) rfl M cs.length _ cs [p] rfl M7.out.c _ 1 _ rfl R7.out (by have := LC.out; omega) M7.out.s ?_; intro A8 m8 c8 w8 o8 b8 g8; obtain rfl := own_len1 o8; have x8 := (b8.block gB M7.out.g).trans M7.out.x; have y0 := Blk.cell x8 2; have q0 := Blk.frozen x8 2; have M8 := Lib.hid (show MSt w wM (w8.setCell ⟨gB, 2, none⟩ (.slice A8 (cs.length + 1) c8)) gB M vF ve (.slice A8 (cs.length + 1) c8) (fs ++ [fl]) es (cs ++ [p]) from (by refine M7.out.putC ?_ b8 g8; rw [show (cs ++ [p]).length = cs.length + 1 from (by simp)]; exact o8)); clear o8 b8 g8 x8))
              clear x2 M7 R7 M5 y0 q0
              generalize hW9 : w8.setCell ⟨gB, 2, none⟩ (.slice A8 (cs.length + 1) c8) = w9 at *
              clear hW9
              obtain ⟨vC, hvC⟩ : ∃ v, v = Value.slice A8 (cs.length + 1) c8 := ⟨_, rfl⟩
              rw [← hvC] at M8
              clear hvC
              have M9 := Lib.hid (M8.out.below (Below.refl w9.heap.size w9).drew)
              obtain ⟨Ae, ce, hve⟩ := own_form M9.out.e
              subst hve
              have hR9 := RW.out _ M9.out.b
              have EN := entries_any w9.drew p _ _ _ b o t hR9.1 hR9.2.1 hR9.2.2 RI.out.1 RI.out.2.1 RI.out.2.2 (by have := LN.out; omega) (by have := LN.out; omega) (by have := LN.out; omega)
              rw [HE.out p] at EN
              have EN1 := Lib.hid EN
              have E3 := Lib.hid (HE3.out p)
              clear hR9 EN M8
              have x1 := M9.out.x.cell 1
              obtain ⟨ne, hne⟩ : ∃ m, m = (es ++ E p).length := ⟨_, rfl⟩
              have NE := Lib.hid hne
              clear hne
              go_region_law (first
                | (go_simp; go_at_call 22; refine EN1.out.mono ?_; rintro e w10 ⟨u, rfl, o10, b10⟩; obtain ⟨A10, c10, rfl⟩ := own_form o10; have M10 := Lib.hid (M9.out.below b10); have R10 := Lib.hid (Reads.of_own cE_len o10); have x10 := M10.out.x.cell 1; clear o10 b10; dsimp only)
                | (refine step_append_ents w10 rfl (.tmp 74) (.tmp 79) rfl M (.slice Ae es.length ce) es (E p) rfl M10.out.e _ _ _ rfl R10.out (by have := LE.out; have := E3.out; omega) M10.out.s ne NE.out ?_; intro A11 c11 w11 o11 b11 g11; have x11 := (b11.block gB M10.out.g).trans M10.out.x; have y0 := Blk.cell x11 1; have q0 := Blk.frozen x11 1; have M11 := Lib.hid (show MSt w wM (w11.setCell ⟨gB, 1, none⟩ (.slice A11 ne c11)) gB M vF (.slice A11 ne c11) vC (fs ++ [fl]) (es ++ E p) (cs ++ [p]) from M10.out.putE o11 b11 g11); clear o11 b11 g11 x11))
              all_goals
                clear x1 x10 y0 q0
                go_wp2
                go_roundw
                case rel => exact ⟨k + 1, _, _, _, by have := HLT.out; omega, by go_num, Lib.hid (by rw [SF'.out, SC'.out, SE'.out]; exact M11.out)⟩
                case measure => have := HLT.out; simp [intOf]; omega
        · obtain rfl : k = P.length := by omega
          have HM2 := Lib.hid (show MSt w wM wr gB M vf ve vc (mrgF F P) (mrgE F E P) (mrgC F P) by have := HM.out; rw [List.take_length] at this; exact this)
          clear HM
          have G8 := Lib.hid (show Blk wr g0 29 #[.slice none 0 0, .slice none 0 0, .slice none 0 0] from (HM2.out.k g0 (by have := HG0.out.1; have := SB.out; have := HM2.out.g; have := HGB.out; omega) (by have := HGB.out; omega)).trans G7.out)
          obtain ⟨Af, cf, hvf⟩ := own_form HM2.out.f
          subst hvf
          have WA := Lib.hid (ways_any wr _ (mrgF F P) (Reads.of_own cF_len HM2.out.f) HSZ.out (by have := mrgF_len F P; have := PL.out; omega))
          have x0 := HM2.out.x.cell 0
          have HW := Lib.hid (show w.heap.size ≤ g0 by rw [HG0.out.1]; exact Nat.le_refl _)
          clear PC MS G7
          go_wp2_with fail
          refine WA.out.mono ?_
          rintro e w2 (⟨hn, rfl, b2⟩ | ⟨i, kk, Fb, hn, rfl, hF, hFa, b2⟩)
          · have M9 := Lib.hid (HM2.out.below b2)
            have G9 := Lib.hid (G8.out.below b2 G8.out.lt)
            have HN := Lib.hid hn
            clear x0 b2 hn HM2 G8
            have x0 := M9.out.x.cell 0
            have x1 := M9.out.x.cell 1
            have x2 := M9.out.x.cell 2
            have y0 := G9.out.cell 0
            have y1 := G9.out.cell 1
            have y2 := G9.out.cell 2
            have q0 := G9.out.frozen 0
            have q1 := G9.out.frozen 1
            have q2 := G9.out.frozen 2
            obtain ⟨Ae, ce, hve⟩ := own_form M9.out.e
            subst hve
            obtain ⟨Ac, cc, hvc⟩ := own_form M9.out.c
            subst hvc
            go_wp2
            have HM3 := Lib.hid (show g0 < M ∧ w.heap.size ≤ M by have := HW.out; have := M9.out.g; have := HGB.out; omega)
            exact bodyPost_ret (results_row_tmp (fn := Tryz.f10) rfl _ _ g0 29 #[.slice Af (mrgF F P).length cf, .slice Ae (mrgE F E P).length ce, .slice Ac (mrgC F P).length cc] (0, 0) _ rfl (row3r G9.out rfl _ _ _) Tryz.underlying29 rfl resSize) rfl
              (.inl ⟨HN.out, _, _, _, rfl, own3 M9.out.f HM3.out.1 HM3.out.2 _ _ _, own3 M9.out.e HM3.out.1 HM3.out.2 _ _ _, own3 M9.out.c HM3.out.1 HM3.out.2 _ _ _, below3 M9.out.b HW.out _ _ _⟩)
          · have G9 := Lib.hid (G8.out.below b2 G8.out.lt)
            have B9 := Lib.hid (HM2.out.b.trans (b2.mono HM2.out.b.size))
            have HN := Lib.hid (show wayV (mrgF F P) = some (i, kk) ∧ wr.heap.size ≤ Fb ∧ FaultOf Fb bFile i kk w2 ∧ g0 < wr.heap.size from ⟨hn, hF, hFa, G8.out.lt⟩)
            have WS := Lib.hid HM2.out.b.size
            clear x0 b2 hn hF hFa HM2 G8
            have y0 := G9.out.cell 0
            have y1 := G9.out.cell 1
            have y2 := G9.out.cell 2
            have q0 := G9.out.frozen 0
            have q1 := G9.out.frozen 1
            have q2 := G9.out.frozen 2
            go_wp2
            exact bodyPost_ret (results_row_tmp (fn := Tryz.f10) rfl _ _ g0 29 #[.slice none 0 0, .slice none 0 0, .slice none 0 0] (0, 0) _ rfl (row3r G9.out rfl _ _ _) Tryz.underlying29 rfl resSize) rfl
              (.inr ⟨i, kk, Fb, HN.out.1, rfl, Nat.le_trans WS.out HN.out.2.1, (heap3 w2 (by have := HN.out.2.1; have := HN.out.2.2.2; omega) _ _ _).trans HN.out.2.2.1, below3 B9.out HW.out _ _ _⟩)
end Go.Proofs.YtapcnmnnichamaaGreatDoor

namespace Go.Proofs.YtapcnmnnichamaaGreatDoor
open Go Go.RowKit

/-- The text that three make, and how much of it clashes; where no text has too many lines. -/
def txG (b y z a n : ByteArray) : ByteArray × Nat := (Mg.mk (Mg.txtAll a.data.toList n.data.toList (Mg.allC (Mg.lns b) (Mg.lns y) (Mg.lns z))), Mg.clashes (Mg.allC (Mg.lns b) (Mg.lns y) (Mg.lns z)))
theorem text_good (b y z a n : ByteArray) (h1 : b.size ≤ 20000) (h2 : y.size ≤ 20000) (h3 : z.size ≤ 20000) (h4 : a.size ≤ 1000) (h5 : n.size ≤ 1000)
    (l1 : (Mg.lns b).length ≤ 256) (l2 : (Mg.lns y).length ≤ 256) (l3 : (Mg.lns z).length ≤ 256) (W : World) : TextSays (some (txG b y z a n)) b y z a n W :=
  (Mg.text_any W b y z a n h1 h2 h3 h4 h5 l1 l2 l3).mono fun _ _ ⟨he, hb⟩ => ⟨he, hb⟩
end Go.Proofs.YtapcnmnnichamaaGreatDoor

namespace Go.Proofs.YtapcnmnnichamaaGreatDoor
open Go Go.RowKit

abbrev qA : ByteArray := ⟨#[97]⟩
abbrev qB : ByteArray := ⟨#[98]⟩
abbrev qX : ByteArray := ⟨#[120, 10]⟩
abbrev qY : ByteArray := ⟨#[121, 10]⟩
abbrev qU : ByteArray := ⟨#[88, 10]⟩
abbrev q1 : ByteArray := ⟨#[49, 10]⟩
abbrev q2 : ByteArray := ⟨#[50, 10]⟩
abbrev qp : ByteArray := ⟨#[112]⟩
abbrev qq : ByteArray := ⟨#[113]⟩
abbrev kb : List Fl := [(qA, 1, qX), (qB, 1, qY)]
abbrev ko : List Fl := [(qA, 1, qU), (qB, 1, q1)]
abbrev kt : List Fl := [(qA, 1, qX), (qB, 1, q2)]
theorem qAB : cb qA qB < 0 := by decide
theorem kp : pathsP kb ko kt = [qA, qB] := rise_unique (nrm_rise _) (List.pairwise_pair.2 qAB) fun s => by
  unfold pathsP
  rw [nrm_mem]
  simp
  constructor
  · rintro (h | h | h | h | h | h) <;> simp [h]
  · rintro (h | h) <;> simp [h]
theorem kcb : chkF kb = none := by decide
theorem kco : chkF ko = none := by decide
theorem kct : chkF kt = none := by decide
theorem ksz {x y : Fl} (hx : x.1.size ≤ 1000000 ∧ x.2.2.size ≤ 1000000) (hy : y.1.size ≤ 1000000 ∧ y.2.2.size ≤ 1000000) : SizedD [x, y] := fun z hz => by
  simp at hz
  rcases hz with rfl | rfl
  · exact hx
  · exact hy
/-- What merge.Text says at known's one clash. -/
def kx (p : ByteArray) : TxO := if p = qB then some (txG qY q1 q2 qp qq) else none
theorem ktx : (txG qY q1 q2 qp qq).2 = 1 ∧ (txG qY q1 q2 qp qq).1.size ≤ 4096 := by decide +kernel
theorem kln : (Mg.lns qY).length ≤ 256 ∧ (Mg.lns q1).length ≤ 256 ∧ (Mg.lns q2).length ≤ 256 := by decide +kernel
theorem gba : getF kb qA = some (qA, 1, qX) := by decide
theorem goa : getF ko qA = some (qA, 1, qU) := by decide
theorem gta : getF kt qA = some (qA, 1, qX) := by decide
theorem gbb : getF kb qB = some (qB, 1, qY) := by decide
theorem gob : getF ko qB = some (qB, 1, q1) := by decide
theorem gtb : getF kt qB = some (qB, 1, q2) := by decide
abbrev kone : OneF := fun p => oneV (kx p) p (getF kb p) (getF ko p) (getF kt p)
theorem koneA : kone qA = (some (qA, 1, qU), false) := by
  show oneV (kx qA) qA (getF kb qA) (getF ko qA) (getF kt qA) = _
  rw [gba, goa, gta]
  unfold oneV
  rw [if_pos (.inr rfl)]
theorem koneB : kone qB = (some (qB, 1, (txG qY q1 q2 qp qq).1), true) := by
  show oneV (kx qB) qB (getF kb qB) (getF ko qB) (getF kt qB) = _
  rw [gbb, gob, gtb]
  have h1 : ¬ (some ((qB, 1, q1) : Fl) = some (qB, 1, q2) ∨ some ((qB, 1, qY) : Fl) = some (qB, 1, q2)) := by decide
  have h2 : ¬ some ((qB, 1, qY) : Fl) = some (qB, 1, q1) := by decide
  have hm : mdV (kx qB) (some (qB, 1, qY)) q1 q2 = ((txG qY q1 q2 qp qq).1, true) := by
    unfold mdV
    rw [if_neg (by decide), if_neg (by decide), if_neg (by decide)]
    unfold kx
    rw [if_pos rfl]
    have := ktx
    generalize txG qY q1 q2 qp qq = sk at *
    obtain ⟨s, k⟩ := sk
    dsimp only at this ⊢
    rw [if_neg (by omega), this.1]
    rfl
  unfold oneV
  rw [if_neg h1, if_neg h2, if_pos ⟨rfl, rfl⟩]
  show (some (qB, _, (mdV (kx qB) (some (qB, 1, qY)) q1 q2).1), (mdV (kx qB) (some (qB, 1, qY)) q1 q2).2) = _
  rw [hm]
  rfl
theorem kF : mrgF kone [qA, qB] = [(qA, 1, qU), (qB, 1, (txG qY q1 q2 qp qq).1)] := by
  unfold mrgF
  rw [List.filterMap_cons, koneA, List.filterMap_cons, koneB]
  rfl
theorem kC : mrgC kone [qA, qB] = [qB] := by
  unfold mrgC
  rw [List.filter_cons, koneA, if_neg (by simp), List.filter_cons, koneB, if_pos rfl]
  rfl
theorem kE : (mrgE kone (fun p => entV p (getF kb p) (getF ko p) (getF kt p)) [qA, qB]).length = 3 := by
  unfold mrgE
  rw [kC]
  show (entV qB (getF kb qB) (getF ko qB) (getF kt qB) ++ []).length = 3
  rw [gbb, gob, gtb]
  rfl
theorem kW : wayV [(qA, 1, qU), (qB, 1, (txG qY q1 q2 qp qq).1)] = none := wayV_good (by simp) fun i f hi => by
  match i, hi with
  | 0, hi => simp at hi; subst hi; rfl
  | 1, hi => simp at hi; subst hi; decide
  | i + 2, hi => simp at hi
theorem reads_two (w : World) (x y : Fl) : Reads 3 cF (w.alloc (.cells #[.string x.1, .int .i64 x.2.1, .string x.2.2, .string y.1, .int .i64 y.2.1, .string y.2.2] 49)) (.slice (some ⟨w.heap.size, 0, none⟩) 2 2) [x, y] := by
  have z := Blk.new w 49 #[.string x.1, .int .i64 x.2.1, .string x.2.2, .string y.1, .int .i64 y.2.1, .string y.2.2]
  obtain ⟨g, hg⟩ : ∃ g, g = w.heap.size := ⟨_, rfl⟩
  rw [← hg] at z ⊢
  refine ⟨some ⟨g, 0, none⟩, 2, rfl, Nat.le_refl _, by decide, by simp, fun ad hA i f hf j u hu => ?_⟩
  obtain rfl := Option.some.inj hA
  match i, hf with
  | 0, hf =>
    simp at hf
    subst hf
    match j, hu with
    | 0, hu => simp [cF] at hu; subst hu; exact z.cell 0
    | 1, hu => simp [cF] at hu; subst hu; exact z.cell 1
    | 2, hu => simp [cF] at hu; subst hu; exact z.cell 2
    | j + 3, hu => simp [cF] at hu
  | 1, hf =>
    simp at hf
    subst hf
    match j, hu with
    | 0, hu =>
      simp [cF] at hu; subst hu
      show World.cell? _ ((⟨g, 0, none⟩ : Addr).add 3) = _
      rw [add_zero_off]; exact z.cell 3
    | 1, hu =>
      simp [cF] at hu; subst hu
      show World.cell? _ ⟨((⟨g, 0, none⟩ : Addr).add 3).block, ((⟨g, 0, none⟩ : Addr).add 3).off + 1, none⟩ = _
      rw [add_zero_off]; exact z.cell 4
    | 2, hu =>
      simp [cF] at hu; subst hu
      show World.cell? _ ⟨((⟨g, 0, none⟩ : Addr).add 3).block, ((⟨g, 0, none⟩ : Addr).add 3).off + 2, none⟩ = _
      rw [add_zero_off]; exact z.cell 5
    | j + 3, hu => simp [cF] at hu
  | i + 2, hf => simp at hf
theorem khT (p : ByteArray) (hp : p ∈ pathsP kb ko kt) (_h1 : getF ko p ≠ getF kt p) (h2 : getF kb p ≠ getF kt p) (_h3 : getF kb p ≠ getF ko p) (W : World) : TextSays (kx p) (sD (getF kb p)) (sD (getF ko p)) (sD (getF kt p)) qp qq W := by
  rw [kp] at hp
  simp at hp
  rcases hp with rfl | rfl
  · exact absurd (gba.trans gta.symm) h2
  · rw [gbb, gob, gtb]
    unfold kx
    rw [if_pos rfl]
    exact text_good qY q1 q2 qp qq (by decide) (by decide) (by decide) (by decide) (by decide) kln.1 kln.2.1 kln.2.2 W
theorem khx (p : ByteArray) (s : ByteArray) (k : Nat) (h : kx p = some (s, k)) : k ≤ 1000000 ∧ s.size ≤ 1000000000 := by
  unfold kx at h
  split at h
  · have := ktx
    obtain e := Option.some.inj h
    rw [e] at this
    dsimp only at this
    exact ⟨by have := this.1; omega, by have := this.2; omega⟩
  · cases h
end Go.Proofs.YtapcnmnnichamaaGreatDoor

namespace Go.Proofs.YtapcnmnnichamaaGreatDoor
open Go Go.RowKit

abbrev rowC (x y : Fl) : Array Value := #[.string x.1, .int .i64 x.2.1, .string x.2.2, .string y.1, .int .i64 y.2.1, .string y.2.2]
theorem own_firstL {w : World} {B : Nat} {e : TypeId} {k : Nat} {v : Value} {n : Nat} {xs : List Value} (h : w.ownsRow B e k v n xs) (hn : 0 < n) :
    ∃ g cap, v = .slice (some ⟨g, 0, none⟩) n cap ∧ n ≤ cap ∧ cap ≤ 9223372036854775807 ∧ g < w.heap.size := by
  rcases h.2 with ⟨_, h0⟩ | ⟨g, cap, cur, hv, hg, hgb, hnc, hcm, _⟩
  · omega
  · exact ⟨g, cap, hv, hnc, by unfold maxLen at hcm; omega, (Array.getElem?_eq_some_iff.1 hgb).1⟩
theorem merged_ok {fs : List Fl} {es : List En} {cs : List ByteArray} {w w' : World} {e : Ending} (h : MergedTo fs es cs w e w') (hw : wayV fs = none) :
    ∃ vf ve vc, e = .returned (.tuple #[.agg #[vf, ve, vc], .nilIface]) ∧ w'.ownsRow w.heap.size 49 3 vf fs.length (fs.flatMap cF) ∧ w'.ownsRow w.heap.size 100 6 ve es.length (es.flatMap cE) ∧ w'.ownsRow w.heap.size 9 1 vc cs.length (cs.map Value.string) ∧ Below w.heap.size w w' := by
  rcases h with ⟨_, h⟩ | ⟨i, k, F, h, _⟩
  · exact h
  · rw [hw] at h; cases h
set_option maxRecDepth 100000 in
set_option maxHeartbeats 4000000 in
theorem known16_yes (w : World) : Calls Tryz.prog 7 #[] w fun e w' => e = .returned (.bool true) ∧ Below w.heap.size w w' := by
  have R1 := Lib.hid (reads_two w (qA, 1, qX) (qB, 1, qY))
  have B1 := Lib.hid ((Below.refl w.heap.size w).alloc (Nat.le_refl _) (.cells (rowC (qA, 1, qX) (qB, 1, qY)) 49))
  obtain ⟨g, hg⟩ : ∃ g, g = w.heap.size := ⟨_, rfl⟩
  have HG := Lib.hid hg
  have e1 : (w.alloc (.cells (rowC (qA, 1, qX) (qB, 1, qY)) 49)).heap.size = g + 1 := by rw [hg]; simp
  have e2 : ((w.alloc (.cells (rowC (qA, 1, qX) (qB, 1, qY)) 49)).alloc (.cells (rowC (qA, 1, qU) (qB, 1, q1)) 49)).heap.size = g + 1 + 1 := by rw [hg]; simp
  have r2 := reads_two (w.alloc (.cells (rowC (qA, 1, qX) (qB, 1, qY)) 49)) (qA, 1, qU) (qB, 1, q1)
  have r3 := reads_two ((w.alloc (.cells (rowC (qA, 1, qX) (qB, 1, qY)) 49)).alloc (.cells (rowC (qA, 1, qU) (qB, 1, q1)) 49)) (qA, 1, qX) (qB, 1, q2)
  rw [e1] at r2
  rw [e2] at r3
  rw [← hg] at R1
  have R1' := Lib.hid ((R1.out.alloc (.cells (rowC (qA, 1, qU) (qB, 1, q1)) 49)).alloc (.cells (rowC (qA, 1, qX) (qB, 1, q2)) 49))
  have R2' := Lib.hid (r2.alloc (.cells (rowC (qA, 1, qX) (qB, 1, q2)) 49))
  have R3' := Lib.hid r3
  have B3 := Lib.hid ((B1.out.alloc B1.out.size (.cells (rowC (qA, 1, qU) (qB, 1, q1)) 49)).alloc (by simp; omega) (.cells (rowC (qA, 1, qX) (qB, 1, q2)) 49))
  clear R1 r2 r3 e1 e2 B1
  go_enter Tryz.func7, Tryz.ntmps7
  go_upto_region 4 with fail
  rw [← hg]
  clear hg
  generalize hW : ((w.alloc (.cells (rowC (qA, 1, qX) (qB, 1, qY)) 49)).alloc (.cells (rowC (qA, 1, qU) (qB, 1, q1)) 49)).alloc (.cells (rowC (qA, 1, qX) (qB, 1, q2)) 49) = w3 at *
  clear hW
  have MG := merge_any w3 _ _ _ kb ko kt qp qq R1'.out R2'.out R3'.out kcb kco kct (ksz (by decide) (by decide)) (ksz (by decide) (by decide)) (ksz (by decide) (by decide)) kx khT khx
  rw [kp, kF, kC] at MG
  have MG1 := Lib.hid (MG.mono fun e w' h => merged_ok h kW)
  have HEL := Lib.hid kE
  obtain ⟨es, hes⟩ : ∃ l, l = mrgE kone (fun p => entV p (getF kb p) (getF ko p) (getF kt p)) [qA, qB] := ⟨_, rfl⟩
  have MG2 := Lib.hid (show Calls Tryz.prog 10 #[.slice (some ⟨g, 0, none⟩) 2 2, .slice (some ⟨g + 1, 0, none⟩) 2 2, .slice (some ⟨g + 1 + 1, 0, none⟩) 2 2, .string qp, .string qq] w3 (fun e w' => ∃ vf ve vc, e = .returned (.tuple #[.agg #[vf, ve, vc], .nilIface]) ∧ w'.ownsRow w3.heap.size 49 3 vf 2 ([(qA, 1, qU), (qB, 1, (txG qY q1 q2 qp qq).1)].flatMap cF) ∧ w'.ownsRow w3.heap.size 100 6 ve es.length (es.flatMap cE) ∧ w'.ownsRow w3.heap.size 9 1 vc 1 ([qB].map Value.string) ∧ Below w3.heap.size w3 w') from by rw [hes]; exact MG1.out)
  rw [← hes] at HEL
  obtain ⟨tt, htt⟩ : ∃ x, x = (txG qY q1 q2 qp qq).1 := ⟨_, rfl⟩
  rw [← htt] at MG2
  have ON := Lib.hid (fun W (hW : Below w3.heap.size w3 W) => (show Calls Tryz.prog 16 #[.string qA, .slice (some ⟨g, 0, none⟩) 2 2, .slice (some ⟨g + 1, 0, none⟩) 2 2, .slice (some ⟨g + 1 + 1, 0, none⟩) 2 2, .string qp, .string qq] W (OneTold (some (qA, 1, qU), false) W) from by
    have h := one_any W qA _ _ _ kb ko kt qp qq (R1'.out.below hW) (R2'.out.below hW) (R3'.out.below hW) (chkF_rise kcb) (chkF_rise kco) (chkF_rise kct) (by simp) (by simp) (by simp) (kx qA) (fun _ h2 _ => absurd (gba.trans gta.symm) h2) (khx qA)
    rw [show oneV (kx qA) qA (getF kb qA) (getF ko qA) (getF kt qA) = (some (qA, 1, qU), false) from koneA] at h
    exact h))
  clear MG MG1 hes htt
  go_upto_region 6 with (first
    | (go_at_call 10; go_loud (refine MG2.out.mono ?_; rintro e w4 ⟨vf, ve, vc, rfl, of, oe, oc, b4⟩; obtain ⟨gf, cf, rfl, hcf, hcm, hgf⟩ := own_firstL of (by decide); obtain ⟨gc, cc, rfl, hcc, hccm, hgc⟩ := own_firstL oc (by decide); obtain ⟨Ae, ce, rfl⟩ := own_form oe; rw [HEL.out]; have X4 := Lib.hid (Blk.new w4 29 #[.slice (some ⟨gf, 0, none⟩) 2 cf, .slice Ae 3 ce, .slice (some ⟨gc, 0, none⟩) 1 cc]); have OF := Lib.hid (of.alloc (.cells #[.slice (some ⟨gf, 0, none⟩) 2 cf, .slice Ae 3 ce, .slice (some ⟨gc, 0, none⟩) 1 cc] 29)); have OC := Lib.hid (oc.alloc (.cells #[.slice (some ⟨gf, 0, none⟩) 2 cf, .slice Ae 3 ce, .slice (some ⟨gc, 0, none⟩) 1 cc] 29)); have B4 := Lib.hid (b4.alloc b4.size (.cells #[.slice (some ⟨gf, 0, none⟩) 2 cf, .slice Ae 3 ce, .slice (some ⟨gc, 0, none⟩) 1 cc] 29)); clear hgf hgc; have ON1 := Lib.hid (ON.out _ B4.out); clear of oe oc b4))
    | (go_at_call 16; go_loud (refine ON1.out.mono ?_; rintro e w5 ⟨rfl, b5⟩; have X5 := Lib.hid ((X4.out.below b5 X4.out.lt).alloc (.cells (fileA (some (qA, 1, qU))) 49)); have OF5 := Lib.hid ((own_keep OF.out b5).alloc (.cells (fileA (some (qA, 1, qU))) 49)); have OC5 := Lib.hid ((own_keep OC.out b5).alloc (.cells (fileA (some (qA, 1, qU))) 49)); have B5 := Lib.hid ((B3.out.trans ((B4.out.trans (b5.mono B4.out.size)).mono B3.out.size)).alloc (by have := B3.out.size; have := B4.out.size; have := b5.size; omega) (.cells (fileA (some (qA, 1, qU))) 49)); have Z5 := Lib.hid (Blk.new w5 49 (fileA (some (qA, 1, qU)))); clear b5)))
  obtain ⟨g4, hg4⟩ : ∃ x, x = w4.heap.size := ⟨_, rfl⟩
  obtain ⟨g5, hg5⟩ : ∃ x, x = w5.heap.size := ⟨_, rfl⟩
  rw [← hg4] at X5 ⊢
  rw [← hg5] at Z5 ⊢
  clear hg4 hg5
  generalize hW6 : w5.alloc (.cells (fileA (some (qA, 1, qU))) 49) = w6 at *
  clear hW6
  have x0 := X5.out.cell 0
  have x1 := X5.out.cell 1
  have x2 := X5.out.cell 2
  have z2 : w6.cell? ⟨g5, 2, none⟩ = some (.string qU) := Z5.out.cell 2
  have d2 : w6.cell? ⟨gf, 2, none⟩ = some (.string qU) := OF5.out.cellAt 2 (by decide)
  have d0 : w6.cell? ⟨gc, 0, none⟩ = some (.string qB) := OC5.out.cellAt 0 (by decide)
  have HB := Lib.hid B5.out
  clear X5 Z5 OF5 OC5 X4 OF OC B4 ON1 B5
  go_wp2
  go_ret
  exact ⟨rfl, HB.out⟩
end Go.Proofs.YtapcnmnnichamaaGreatDoor

namespace Go.Proofs.YtapcnmnnichamaaGreatDoor
open Go.RowKit

def FewToF (l : List Fl) (w : World) (e : Ending) (w' : World) : Prop := ∃ b : Bool, e = .returned (.bool b) ∧ (b = true → l.length ≤ 80 ∧ ∀ x ∈ l, x.1.size ≤ 100 ∧ x.2.2.size ≤ 5000) ∧ ∃ q, w' = w.drewN q
set_option maxHeartbeats 4000000 in
theorem fewF_any (w : World) (v : Value) (l : List Fl) (h : Reads 3 cF w v l) : Calls Tryz.prog 8 #[v] w (FewToF l w) := by
  obtain ⟨A, c, rfl⟩ := h.form
  have hn := h.len
  have hnm : l.length ≤ 9223372036854775807 := by have := hn.2; unfold maxLen at this; omega
  have HO := Lib.hid h
  clear h hn
  by_cases hbig : 80 < l.length
  · have hb : (80 : Int) < (l.length : Int) := by omega
    go_enter Tryz.func8, Tryz.ntmps8
    go_wp2
    go_ret
    exact ⟨false, rfl, (fun h => by cases h), 0, rfl⟩
  · have hb : ¬ (80 : Int) < (l.length : Int) := by omega
    have HB := Lib.hid hbig
    go_enter Tryz.func8, Tryz.ntmps8
    go_wp2
    go_loopw [3] (fun s3 wr => ∃ k : Nat, k ≤ l.length ∧ s3 = .int .i64 k ∧ Hid (∀ x ∈ l.take k, x.1.size ≤ 100 ∧ x.2.2.size ≤ 5000) ∧ SameW wr w) (fun s3 _ => l.length - (intOf s3).toNat)
    case atStart => exact ⟨0, Nat.zero_le _, rfl, Lib.hid (fun x hx => by simp at hx), rfl⟩
    case round =>
      obtain ⟨k, hk, rfl, hp, hw⟩ := hrel
      unfold SameW at hw
      subst hw
      by_cases hlt : k < l.length
      · obtain ⟨x, hx⟩ : ∃ x, l[k]? = some x := ⟨_, List.getElem?_eq_getElem hlt⟩
        obtain ⟨ad, rfl, c0, c1, c2⟩ := Fils.at_ HO.out hx
        have HT := Lib.hid (take_snoc hx)
        obtain ⟨p, m, d⟩ := x
        have k0 : (0 : Int) ≤ (k : Int) := Int.natCast_nonneg _
        have k1 : (k : Int) < (l.length : Int) := by omega
        clear hx
        by_cases h1 : 100 < p.size
        · have h1' : (100 : Int) < (p.size : Int) := by omega
          go_wp2
          go_ret
          exact ⟨false, rfl, (fun h => by cases h), 0, rfl⟩
        · have h1' : ¬ (100 : Int) < (p.size : Int) := by omega
          by_cases h2 : 5000 < d.size
          · have h2' : (5000 : Int) < (d.size : Int) := by omega
            go_wp2
            go_ret
            exact ⟨false, rfl, (fun h => by cases h), 0, rfl⟩
          · have h2' : ¬ (5000 : Int) < (d.size : Int) := by omega
            have HP : Hid (∀ x ∈ l.take (k + 1), x.1.size ≤ 100 ∧ x.2.2.size ≤ 5000) := Lib.hid (by
              rw [HT.out]
              intro x hx
              rcases List.mem_append.1 hx with hx | hx
              · exact hp.out x hx
              · rw [List.mem_singleton.1 hx]; exact ⟨Nat.not_lt.1 h1, Nat.not_lt.1 h2⟩)
            go_wp2
            go_roundw
            case rel => exact ⟨k + 1, by omega, by go_num, HP, rfl⟩
            case measure => simp [intOf]; omega
      · obtain rfl : k = l.length := by omega
        have HP := Lib.hid (show ∀ x ∈ l, x.1.size ≤ 100 ∧ x.2.2.size ≤ 5000 by have := hp.out; rw [List.take_length] at this; exact this)
        go_wp2
        go_ret
        exact ⟨true, rfl, fun _ => ⟨Nat.not_lt.1 HB.out, HP.out⟩, 0, rfl⟩

end Go.Proofs.YtapcnmnnichamaaGreatDoor

namespace Go.Proofs.YtapcnmnnichamaaGreatDoor
open Go Go.RowKit

theorem mrg_same {F : OneF} {P : List ByteArray} {o : List Fl} (ro : RiseF o) (hP : RiseP P) (hin : ∀ f ∈ o, f.1 ∈ P) (hF : ∀ p, F p = (getF o p, false)) : mrgF F P = o ∧ mrgC F P = [] := by
  have hr : RiseF (mrgF F P) := by
    refine List.pairwise_filterMap.2 (hP.imp fun {a b} hab f hf g hg => ?_)
    rw [hF] at hf hg
    rw [getF_path hf, getF_path hg]
    exact hab
  refine ⟨tree_ext hr ro fun p => opt_ext fun f => ?_, ?_⟩
  · rw [getF_iff hr, getF_iff ro]
    constructor
    · rintro ⟨h1, h2⟩
      obtain ⟨q, _, h3⟩ := List.mem_filterMap.1 h1
      rw [hF] at h3
      exact ⟨getF_in h3, h2⟩
    · rintro ⟨h1, h2⟩
      refine ⟨List.mem_filterMap.2 ⟨f.1, hin f h1, ?_⟩, h2⟩
      rw [hF]
      exact (getF_iff ro).2 ⟨h1, rfl⟩
  · unfold mrgC
    rw [List.filter_eq_nil_iff]
    intro p _
    rw [hF]
    simp
/-- What comes of a merge where nothing clashes, and o is taken. -/
def TakenTo (o : List Fl) (w : World) (e : Ending) (w' : World) : Prop :=
  ∃ Af cf Ae ce Ac cc, e = .returned (.tuple #[.agg #[.slice Af o.length cf, .slice Ae 0 ce, .slice Ac 0 cc], .nilIface]) ∧ Reads 3 cF w' (.slice Af o.length cf) o ∧ Below w.heap.size w w'
theorem merge_taken (w : World) (v1 v2 v3 : Value) (a b c o : List Fl) (n m : ByteArray) (h1 : Reads 3 cF w v1 a) (h2 : Reads 3 cF w v2 b) (h3 : Reads 3 cF w v3 c) (k1 : chkF a = none) (k2 : chkF b = none) (k3 : chkF c = none) (s1 : SizedD a) (s2 : SizedD b) (s3 : SizedD c)
    (ho : chkF o = none) (hin : ∀ f ∈ o, f.1 ∈ pathsP a b c) (hF : ∀ p, oneV none p (getF a p) (getF b p) (getF c p) = (getF o p, false)) (hT : ∀ p, getF b p ≠ getF c p → getF a p ≠ getF c p → getF a p ≠ getF b p → False) :
    Calls Tryz.prog 10 #[v1, v2, v3, .string n, .string m] w (TakenTo o w) := by
  have MG := merge_any w v1 v2 v3 a b c n m h1 h2 h3 k1 k2 k3 s1 s2 s3 (fun _ => none) (fun p _ e1 e2 e3 => absurd (hT p e1 e2 e3) id) (fun _ _ _ h => by cases h)
  obtain ⟨e1, e2⟩ := mrg_same (F := fun p => oneV none p (getF a p) (getF b p) (getF c p)) (chkF_rise ho) (nrm_rise _) hin hF
  have e3 : mrgE (fun p => oneV none p (getF a p) (getF b p) (getF c p)) (fun p => entV p (getF a p) (getF b p) (getF c p)) (pathsP a b c) = [] := by
    unfold mrgE
    rw [show mrgC (fun p => oneV none p (getF a p) (getF b p) (getF c p)) (pathsP a b c) = [] from e2]
    rfl
  rw [show mrgF (fun p => oneV none p (getF a p) (getF b p) (getF c p)) (pathsP a b c) = o from e1, show mrgC (fun p => oneV none p (getF a p) (getF b p) (getF c p)) (pathsP a b c) = [] from e2, e3] at MG
  refine MG.mono fun e w' h => ?_
  obtain ⟨vf, ve, vc, rfl, of, oe, oc, hb⟩ := merged_ok h (way_of_chk ho)
  obtain ⟨Af, cf, rfl⟩ := own_form of
  obtain ⟨Ae, ce, rfl⟩ := own_form oe
  obtain ⟨Ac, cc, rfl⟩ := own_form oc
  exact ⟨Af, cf, Ae, ce, Ac, cc, rfl, Reads.of_own cF_len of, hb⟩
theorem in_paths {a b c : List Fl} {f : Fl} (h : f ∈ a ∨ f ∈ b ∨ f ∈ c) : f.1 ∈ pathsP a b c := by
  unfold pathsP
  rw [nrm_mem, List.mem_append, List.mem_append, List.mem_map, List.mem_map, List.mem_map]
  rcases h with h | h | h
  · exact .inl (.inl ⟨f, h, rfl⟩)
  · exact .inl (.inr ⟨f, h, rfl⟩)
  · exact .inr ⟨f, h, rfl⟩
theorem oneV_x {p : ByteArray} {x y : Option Fl} : oneV none p x y x = (y, false) := by unfold oneV; rw [if_pos (.inr rfl)]
theorem oneV_y {p : ByteArray} {x z : Option Fl} : oneV none p x x z = (z, false) := by
  unfold oneV
  by_cases h : x = z
  · rw [if_pos (.inr h), h]
  · rw [if_neg (fun e => e.elim h h), if_pos rfl]
theorem oneV_z {p : ByteArray} {x y : Option Fl} : oneV none p x y y = (y, false) := by unfold oneV; rw [if_pos (.inl rfl)]
set_option maxRecDepth 100000 in
set_option maxHeartbeats 8000000 in
theorem treesSides_any (w : World) (vb vo : Value) (b o : List Fl) (hb : Reads 3 cF w vb b) (ho : Reads 3 cF w vo o) :
    Calls Tryz.prog 5 #[vb, vo] w fun e w' => e = .returned (.bool true) ∧ Below w.heap.size w w' := by
  have KN := Lib.hid (known16_yes w)
  have RW := Lib.hid fun W (hW : Below w.heap.size w W) => (⟨hb.below hW, ho.below hW⟩ : Reads 3 cF W vb b ∧ Reads 3 cF W vo o)
  obtain ⟨Ab, cb', rfl⟩ := hb.form
  obtain ⟨Ao, co, rfl⟩ := ho.form
  clear hb ho
  go_enter Tryz.func5, Tryz.ntmps5
  go_wp2_with fail
  refine KN.out.mono ?_
  rintro e w1 ⟨rfl, b1⟩
  have B1 := Lib.hid b1
  have F1 := Lib.hid (fewF_any w1 _ b (RW.out _ b1).1)
  clear KN b1
  go_wp2_with fail
  refine F1.out.mono ?_
  rintro e w2 ⟨f1, rfl, hf1, q1, hq1⟩
  have B2 := Lib.hid (show Below w.heap.size w w2 by rw [hq1]; exact below_drewN B1.out q1)
  have FB := Lib.hid hf1
  clear hf1 hq1 F1 B1
  cases f1 with
  | false =>
    go_wp2
    go_ret
    exact ⟨rfl, B2.out⟩
  | true =>
    have F2 := Lib.hid (fewF_any w2 _ o (RW.out _ B2.out).2)
    go_wp2_with fail
    refine F2.out.mono ?_
    rintro e w3 ⟨f2, rfl, hf2, q2, hq2⟩
    have B3 := Lib.hid (show Below w.heap.size w w3 by rw [hq2]; exact below_drewN B2.out q2)
    have FO := Lib.hid hf2
    clear hf2 hq2 F2 B2
    cases f2 with
    | false =>
      go_wp2
      go_ret
      exact ⟨rfl, B3.out⟩
    | true =>
      have SB := Lib.hid (show SizedD b from fun x hx => by have := (FB.out trivial).2 x hx; omega)
      have SO := Lib.hid (show SizedD o from fun x hx => by have := (FO.out rfl).2 x hx; omega)
      have C1 := Lib.hid (checkF_any w3 _ b (RW.out _ B3.out).1 SB.out (by have := (FB.out trivial).1; omega))
      go_wp2_with fail
      refine C1.out.mono ?_
      rintro e w4 (⟨kb, rfl, b4⟩ | ⟨i, k, F, _, rfl, _, _, b4⟩)
      · have B4 := Lib.hid (B3.out.trans (b4.mono B3.out.size))
        have KB := Lib.hid kb
        clear b4 kb C1 B3
        have C2 := Lib.hid (checkF_any w4 _ o (RW.out _ B4.out).2 SO.out (by have := (FO.out trivial).1; omega))
        go_wp2_with fail
        refine C2.out.mono ?_
        rintro e w5 (⟨ko, rfl, b5⟩ | ⟨i, k, F, _, rfl, _, _, b5⟩)
        · have B5 := Lib.hid (B4.out.trans (b5.mono B4.out.size))
          have KO := Lib.hid ko
          clear b5 ko C2 B4
          have M1 := Lib.hid fun W (hW : Below w.heap.size w W) => merge_taken W _ _ _ b o b o ⟨#[120]⟩ ⟨#[121]⟩ (RW.out W hW).1 (RW.out W hW).2 (RW.out W hW).1 KB.out KO.out KB.out SB.out SO.out SB.out KO.out (fun f hf => in_paths (.inr (.inl hf))) (fun p => oneV_x) (fun p _ h _ => h rfl)
          have M2 := Lib.hid fun W (hW : Below w.heap.size w W) => merge_taken W _ _ _ b b o o ⟨#[120]⟩ ⟨#[121]⟩ (RW.out W hW).1 (RW.out W hW).1 (RW.out W hW).2 KB.out KB.out KO.out SB.out SB.out SO.out KO.out (fun f hf => in_paths (.inr (.inr hf))) (fun p => oneV_y) (fun p _ _ h => h rfl)
          have M3 := Lib.hid fun W (hW : Below w.heap.size w W) => merge_taken W _ _ _ b o o o ⟨#[120]⟩ ⟨#[121]⟩ (RW.out W hW).1 (RW.out W hW).2 (RW.out W hW).2 KB.out KO.out KO.out SB.out SO.out SO.out KO.out (fun f hf => in_paths (.inr (.inl hf))) (fun p => oneV_z) (fun p h _ _ => h rfl)
          go_upto_region 6 with (go_at_call 10; refine (M1.out _ B5.out).mono ?_; rintro e w6 ⟨Af, cf, Ae, ce, Ac, cc, rfl, r6, b6⟩; have R6 := Lib.hid (r6.alloc (.cells #[.slice Af o.length cf, .slice Ae 0 ce, .slice Ac 0 cc] 29)); have X6 := Lib.hid (Blk.new w6 29 #[.slice Af o.length cf, .slice Ae 0 ce, .slice Ac 0 cc]); have B6 := Lib.hid ((B5.out.trans (b6.mono B5.out.size)).alloc (Nat.le_trans B5.out.size b6.size) (.cells #[.slice Af o.length cf, .slice Ae 0 ce, .slice Ac 0 cc] 29)); clear r6 b6)
          obtain ⟨g6, hg6⟩ : ∃ x, x = w6.heap.size := ⟨_, rfl⟩
          rw [← hg6] at X6 ⊢
          clear hg6
          generalize hW7 : w6.alloc (.cells #[.slice Af o.length cf, .slice Ae 0 ce, .slice Ac 0 cc] 29) = w7 at *
          clear hW7
          go_upto_region 7 with (go_at_call 10; refine (M2.out _ B6.out).mono ?_; rintro e w8 ⟨Ag, cg, Ah, ch, Ai, ci, rfl, r8, b8⟩; have R8 := Lib.hid (r8.alloc (.cells #[.slice Ag o.length cg, .slice Ah 0 ch, .slice Ai 0 ci] 29)); have X8 := Lib.hid (Blk.new w8 29 #[.slice Ag o.length cg, .slice Ah 0 ch, .slice Ai 0 ci]); have bb := b8.alloc b8.size (.cells #[.slice Ag o.length cg, .slice Ah 0 ch, .slice Ai 0 ci] 29); have B8 := Lib.hid (B6.out.trans (bb.mono B6.out.size)); have X7 := Lib.hid (X6.out.below bb X6.out.lt); have R7 := Lib.hid (R6.out.below bb); clear r8 b8 bb)
          obtain ⟨g8, hg8⟩ : ∃ x, x = w8.heap.size := ⟨_, rfl⟩
          rw [← hg8] at X8 ⊢
          clear hg8 X6 R6 B6
          generalize hW9 : w8.alloc (.cells #[.slice Ag o.length cg, .slice Ah 0 ch, .slice Ai 0 ci] 29) = w9 at *
          clear hW9
          go_upto_region 8 with (go_at_call 10; refine (M3.out _ B8.out).mono ?_; rintro e wa ⟨Aj, cj, Ak, ck, Al, cl, rfl, ra, ba⟩; have Ra := Lib.hid (ra.alloc (.cells #[.slice Aj o.length cj, .slice Ak 0 ck, .slice Al 0 cl] 29)); have Xa := Lib.hid (Blk.new wa 29 #[.slice Aj o.length cj, .slice Ak 0 ck, .slice Al 0 cl]); have bb := ba.alloc ba.size (.cells #[.slice Aj o.length cj, .slice Ak 0 ck, .slice Al 0 cl] 29); have Ba := Lib.hid (B8.out.trans (bb.mono B8.out.size)); have X9 := Lib.hid (X7.out.below bb X7.out.lt); have R9 := Lib.hid (R7.out.below bb); have Y9 := Lib.hid (X8.out.below bb X8.out.lt); have Q9 := Lib.hid (R8.out.below bb); clear ra ba bb)
          obtain ⟨ga, hga⟩ : ∃ x, x = wa.heap.size := ⟨_, rfl⟩
          rw [← hga] at Xa ⊢
          clear hga X7 R7 B8 X8 R8 M1 M2 M3
          generalize hWb : wa.alloc (.cells #[.slice Aj o.length cj, .slice Ak 0 ck, .slice Al 0 cl] 29) = wb at *
          clear hWb
          have x0 := X9.out.cell 0
          have x1 := X9.out.cell 1
          have x2 := X9.out.cell 2
          have y0 := Y9.out.cell 0
          have y1 := Y9.out.cell 1
          have y2 := Y9.out.cell 2
          have z0 := Xa.out.cell 0
          have z1 := Xa.out.cell 1
          have z2 := Xa.out.cell 2
          have SM := fun (v : Value) (h : Reads 3 cF wb v o) (n : Nat) => sameF_any (wb.drewN n) v (.slice Ao o.length co) o o (h.drewN n) ((RW.out _ Ba.out).2.drewN n)
          have S1 := Lib.hid (sameF_any wb _ (.slice Ao o.length co) o o R9.out (RW.out _ Ba.out).2)
          have S2 := Lib.hid (SM _ Q9.out)
          have S3 := Lib.hid (SM _ Ra.out)
          rw [decide_eq_true (rfl : o = o)] at S1 S2 S3
          clear SM
          go_wp2_with (first
            | (go_at_call 18; refine (S3.out _).mono ?_; rintro e wf ⟨rfl, q3, rfl⟩; have hq3 := Lib.hid (show True from trivial))
            | (go_at_call 18; refine (S2.out _).mono ?_; rintro e we ⟨rfl, q2, rfl⟩)
            | (go_at_call 18; refine S1.out.mono ?_; rintro e wd ⟨rfl, q1, rfl⟩))
          go_ret
          exact ⟨rfl, below_drewN Ba.out _⟩
        · have B5 := Lib.hid (B4.out.trans (b5.mono B4.out.size))
          clear b5
          go_wp2
          go_ret
          exact ⟨rfl, B5.out⟩
      · have B4 := Lib.hid (B3.out.trans (b4.mono B3.out.size))
        clear b4
        go_wp2
        go_ret
        exact ⟨rfl, B4.out⟩
end Go.Proofs.YtapcnmnnichamaaGreatDoor
