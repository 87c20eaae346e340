/-
  tmerge: Merge of three trees that may be.
-/
import Derived.Test.YtapcnmnnichamaaDoorTB
import Derived.Deep.RegionLaw

namespace Go.Proofs.YtapcnmnnichamaaDoor
open Go Go.RowKit

theorem oneV_there {o : TxO} {p : ByteArray} {x y z : Option Fl} (h : (oneV o p x y z).2 = true) : ∃ f, (oneV o p x y z).1 = some f := by
  unfold oneV at h ⊢
  by_cases h1 : y = z ∨ x = z
  · rw [if_pos h1] at h; cases h
  rw [if_neg h1] at h ⊢
  by_cases h2 : x = y
  · rw [if_pos h2] at h; cases h
  rw [if_neg h2] at h ⊢
  by_cases h3 : y.isSome = true ∧ z.isSome = true
  · rw [if_pos h3]; exact ⟨_, rfl⟩
  rw [if_neg h3]
  by_cases h4 : y.isSome = true
  · rw [if_pos h4]; exact Option.isSome_iff_exists.1 h4
  rw [if_neg h4]
  cases z with
  | some g => exact ⟨g, rfl⟩
  | none =>
    cases y with
    | none => exact absurd (.inl rfl) h1
    | some g => exact absurd rfl h4
theorem getF_in {l : List Fl} {p : ByteArray} {f : Fl} (h : getF l p = some f) : f ∈ l := List.mem_of_find?_eq_some h
theorem oneV_path {tx : TxO} {p : ByteArray} {x : Option Fl} {o t : List Fl} (so : SizedD o) (st : SizedD t) {f : Fl} (h : (oneV tx p x (getF o p) (getF t p)).1 = some f) : f.1 = p ∧ f.1.size ≤ 1000000 := by
  have ho : ∀ g, getF o p = some g → g.1 = p ∧ g.1.size ≤ 1000000 := fun g hg => ⟨getF_path hg, (so g (getF_in hg)).1⟩
  have ht : ∀ g, getF t p = some g → g.1 = p ∧ g.1.size ≤ 1000000 := fun g hg => ⟨getF_path hg, (st g (getF_in hg)).1⟩
  unfold oneV at h
  split at h
  · exact ho f h
  · split at h
    · exact ht f h
    · split at h
      · rename_i h3
        obtain ⟨g, hg⟩ := Option.isSome_iff_exists.1 h3.1
        have := ho g hg
        obtain rfl := Option.some.inj h
        exact ⟨rfl, by rw [← this.1]; exact this.2⟩
      · split at h
        · exact ho f h
        · exact ht f h
/-- What a merge answers: its rows, or a fault. -/
def MergedTo (fs : List Fl) (es : List En) (cs : List ByteArray) (w : World) (e : Ending) (w' : World) : Prop :=
  (wayV fs = none ∧ ∃ vf ve vc, e = .returned (.tuple #[.agg #[vf, ve, vc], .nilIface]) ∧ w'.ownsRow w.heap.size 36 3 vf fs.length (fs.flatMap cF) ∧ w'.ownsRow w.heap.size 40 6 ve es.length (es.flatMap cE) ∧ w'.ownsRow w.heap.size 9 1 vc cs.length (cs.map Value.string) ∧ Below w.heap.size w w') ∨
  ∃ i k F, wayV fs = some (i, k) ∧ e = .returned (.tuple #[.agg #[.slice none 0 0, .slice none 0 0, .slice none 0 0], .iface 56 (.pointer (some ⟨F, 0, none⟩))]) ∧ w.heap.size ≤ F ∧ FaultOf F bFile i k w' ∧ Below w.heap.size w w'
theorem row3r {w : World} {g : Nat} {cs : Array Value} (h : Blk w g 29 cs) (hs : cs.size = 3) (a b c : Value) : Blk (((w.setCell ⟨g, 0, none⟩ a).setCell ⟨g, 1, none⟩ b).setCell ⟨g, 2, none⟩ c) g 29 #[a, b, c] := by
  have := ((h.set_ 0 a).set_ 1 b).set_ 2 c
  match cs, hs with
  | ⟨[x, y, z]⟩, _ => simpa using this
theorem own3 {w : World} {B B' k n g : Nat} {e : TypeId} {v : Value} {xs : List Value} (h : w.ownsRow B e k v n xs) (hg : g < B) (hb : B' ≤ B) (a b c : Value) : (((w.setCell ⟨g, 0, none⟩ a).setCell ⟨g, 1, none⟩ b).setCell ⟨g, 2, none⟩ c).ownsRow B' e k v n xs := by
  obtain ⟨h1, h2⟩ := own_set (own_set (own_set h hg 0 a) hg 1 b) hg 2 c
  exact ⟨h1, h2.imp id fun ⟨g, cap, cur, a, b, r⟩ => ⟨g, cap, cur, a, Nat.le_trans hb b, r⟩⟩
theorem heap3 (w : World) {g j : Nat} (h : j ≠ g) (a b c : Value) : (((w.setCell ⟨g, 0, none⟩ a).setCell ⟨g, 1, none⟩ b).setCell ⟨g, 2, none⟩ c).heap[j]? = w.heap[j]? :=
  (Below.heap_setCell _ ⟨g, 2, none⟩ c j h).trans ((Below.heap_setCell _ ⟨g, 1, none⟩ b j h).trans (Below.heap_setCell _ ⟨g, 0, none⟩ a j h))
theorem resSize : (Tryd.prog.info? 29).map (·.size) = some 3 := by kernel_rfl
def pathsP (b o t : List Fl) : List ByteArray := nrm (b.map (·.1) ++ o.map (·.1) ++ t.map (·.1))
theorem own_str_at {w : World} {B n c : Nat} {A : Option Addr} {P : List ByteArray} (h : w.ownsRow B 9 1 (.slice A n c) P.length (P.map Value.string)) {i : Nat} {p : ByteArray} (hi : P[i]? = some p) :
    ∃ g, A = some ⟨g, 0, none⟩ ∧ B ≤ g ∧ g < w.heap.size ∧ w.cell? ⟨g, i, none⟩ = some (.string p) := by
  have hl := (List.getElem?_eq_some_iff.1 hi).1
  rcases h.2 with ⟨_, h0⟩ | ⟨g, cap, cur, e, hb, hh, rest⟩
  · omega
  · injection e with e1 e2 e3
    have hob : (Value.slice A n c).ownBlock = some g := by rw [e1]; rfl
    have hc := h.cells hob i (.string p) (by rw [List.getElem?_map, hi]; rfl)
    rw [add_zero_off] at hc
    exact ⟨g, e1, hb, (h.lt g hob).2, hc⟩
theorem cell_heap {w w' : World} {j i : Nat} (h : w'.heap[j]? = w.heap[j]?) : w'.cell? ⟨j, i, none⟩ = w.cell? ⟨j, i, none⟩ := by
  simp only [World.cell?, h]
theorem own_len1 {w : World} {B k n m c : Nat} {e : TypeId} {A : Option Addr} {xs : List Value} (h : w.ownsRow B e k (.slice A m c) n xs) : n = m := by
  obtain ⟨A', c', h2⟩ := own_form h
  injection h2 with _ h3 _
  exact h3.symm
theorem pathsP_eq (vb vo vt : Value) (b o t : List Fl) : nrm (pathsR [(vb, b), (vo, o), (vt, t)]) = pathsP b o t := by
  unfold pathsP pathsR
  simp
theorem pathsP_len (b o t : List Fl) : (pathsP b o t).length ≤ b.length + o.length + t.length := by
  have := nrm_len (b.map (·.1) ++ o.map (·.1) ++ t.map (·.1))
  rw [List.length_append, List.length_append, List.length_map, List.length_map, List.length_map] at this
  exact this
set_option maxRecDepth 100000 in
set_option maxHeartbeats 8000000 in
theorem merge_any (w : World) (vb vo vt : Value) (b o t : List Fl) (a n : ByteArray) (hb : Reads 3 cF w vb b) (ho : Reads 3 cF w vo o) (ht : Reads 3 cF w vt t) (kb : chkF b = none) (ko : chkF o = none) (kt : chkF t = none) (sb : SizedD b) (so : SizedD o) (st : SizedD t)
    (x : ByteArray → TxO) (hT : ∀ p, p ∈ pathsP b o t → getF o p ≠ getF t p → getF b p ≠ getF t p → getF b p ≠ getF o p → ∀ W, TextSays (x p) (sD (getF b p)) (sD (getF o p)) (sD (getF t p)) a n W) (hx : ∀ p s k, x p = some (s, k) → k ≤ 1000000 ∧ s.size ≤ 1000000000) :
    Calls Tryd.prog 7 #[vb, vo, vt, .string a, .string n] w (MergedTo (mrgF (fun p => oneV (x p) p (getF b p) (getF o p) (getF t p)) (pathsP b o t)) (mrgE (fun p => oneV (x p) p (getF b p) (getF o p) (getF t p)) (fun p => entV p (getF b p) (getF o p) (getF t p)) (pathsP b o t)) (mrgC (fun p => oneV (x p) p (getF b p) (getF o p) (getF t p)) (pathsP b o t)) w) := by
  have rb := chkF_rise kb
  have ro := chkF_rise ko
  have rt := chkF_rise kt
  have lb := chkF_len kb
  have lo := chkF_len ko
  have lt := chkF_len kt
  obtain ⟨Ab, cb, rfl⟩ := hb.form
  obtain ⟨Ao, co, rfl⟩ := ho.form
  obtain ⟨At, ct, rfl⟩ := ht.form
  have G0 := Lib.hid (Blk.new w 29 #[.slice none 0 0, .slice none 0 0, .slice none 0 0])
  have TR := Lib.hid (trees3 (w.alloc (.cells #[.slice none 0 0, .slice none 0 0, .slice none 0 0] 29)) _ _ _ b o t (hb.alloc _) (ho.alloc _) (ht.alloc _))
  have B1 := Lib.hid ((Below.refl w.heap.size w).alloc (Nat.le_refl _) (.cells #[.slice none 0 0, .slice none 0 0, .slice none 0 0] 29))
  have B2 := Lib.hid (B1.out.alloc B1.out.size (.cells #[.slice Ab b.length cb, .slice Ao o.length co, .slice At t.length ct] 23))
  have G2 := Lib.hid (G0.out.alloc (.cells #[.slice Ab b.length cb, .slice Ao o.length co, .slice At t.length ct] 23))
  obtain ⟨rs, hrs⟩ : ∃ rs, rs = [(Value.slice Ab b.length cb, b), (Value.slice Ao o.length co, o), (Value.slice At t.length ct, t)] := ⟨_, rfl⟩
  have RR := Lib.hid (show ∀ (i : Nat) (r : Value × List Fl), rs[i]? = some r → chkF r.2 = none ∧ SizedD r.2 ∧ r.2.length ≤ 100000 from fun i r hr => by
    have : r ∈ rs := List.mem_of_getElem? hr
    rw [hrs] at this
    simp at this
    rcases this with rfl | rfl | rfl
    · exact ⟨kb, sb, by dsimp only; omega⟩
    · exact ⟨ko, so, by dsimp only; omega⟩
    · exact ⟨kt, st, by dsimp only; omega⟩)
  have HRS := Lib.hid hrs
  have HL := Lib.hid (show rs.length = 3 by rw [hrs]; rfl)
  rw [← hrs] at TR
  have RD := Lib.hid (And.intro hb (And.intro ho ht))
  have LN := Lib.hid (And.intro lb (And.intro lo lt))
  have RI := Lib.hid (And.intro rb (And.intro ro rt))
  obtain ⟨P, hP⟩ : ∃ P, P = pathsP b o t := ⟨_, rfl⟩
  rw [← hP] at hT ⊢
  have HP := Lib.hid hP
  have PL := Lib.hid (show P.length ≤ 192 by rw [hP]; have := pathsP_len b o t; omega)
  obtain ⟨F, hF⟩ : ∃ F : OneF, F = fun p => oneV (x p) p (getF b p) (getF o p) (getF t p) := ⟨_, rfl⟩
  obtain ⟨E, hE⟩ : ∃ E : ByteArray → List En, E = fun p => entV p (getF b p) (getF o p) (getF t p) := ⟨_, rfl⟩
  rw [← hF, ← hE]
  have HF := Lib.hid (show ∀ p, oneV (x p) p (getF b p) (getF o p) (getF t p) = F p from fun p => by rw [hF])
  have HE := Lib.hid (show ∀ p, entV p (getF b p) (getF o p) (getF t p) = E p from fun p => by rw [hE])
  have HF2 := Lib.hid (show ∀ p, (F p).2 = true → ∃ f, (F p).1 = some f from fun p h => by rw [hF] at h ⊢; exact oneV_there h)
  have HSZ := Lib.hid (show Sized (mrgF F P) from fun f hf => by
    obtain ⟨p, _, h⟩ := List.mem_filterMap.1 hf
    rw [hF] at h
    exact (oneV_path so st h).2)
  have HE3 := Lib.hid (show ∀ p, (E p).length ≤ 3 from fun p => by rw [hE]; exact entV_len _ _ _ _)
  have HT := Lib.hid hT
  have HX := Lib.hid hx
  clear hP hF hE hrs hb ho ht rb ro rt lb lo lt kb ko kt sb so st hT hx
  go_enter Tryd.func7, Tryd.ntmps7
  go_wp2_with fail
  obtain ⟨g0, hg0⟩ : ∃ g, g = w.heap.size := ⟨_, rfl⟩
  have hsz : (w.alloc (.cells #[.slice none 0 0, .slice none 0 0, .slice none 0 0] 29)).heap.size = g0 + 1 := by rw [hg0]; simp
  rw [hsz] at TR
  rw [← hg0] at G2 ⊢
  generalize hW1 : (w.alloc (.cells #[.slice none 0 0, .slice none 0 0, .slice none 0 0] 29)).alloc (.cells #[.slice Ab b.length cb, .slice Ao o.length co, .slice At t.length ct] 23) = w1 at *
  have HG0 := Lib.hid (show g0 = w.heap.size ∧ g0 < w1.heap.size from ⟨hg0, G2.out.lt⟩)
  clear hg0 hW1 hsz G0 B1
  go_loopw [27] (fun s27 wr => ∃ k : Nat, k ≤ 3 ∧ s27 = .int .i64 k ∧ Hid (Below w1.heap.size w1 wr)) (fun s27 _ => 3 - (intOf s27).toNat)
  case atStart => exact ⟨0, Nat.zero_le _, rfl, Lib.hid (Below.refl _ _)⟩
  case round =>
    obtain ⟨k, hk, rfl, HB⟩ := hrel
    have k0 : (0 : Int) ≤ (k : Int) := Int.natCast_nonneg _
    by_cases hlt : k < 3
    · obtain ⟨r, hr⟩ : ∃ r, rs[k]? = some r := ⟨_, List.getElem?_eq_getElem (by rw [HL.out]; exact hlt)⟩
      have c0 := ((TR.out.below HB.out) k r hr).1
      have hrd := ((TR.out.below HB.out) k r hr).2
      have hq := RR.out k r hr
      obtain ⟨rv, l⟩ := r
      dsimp only at hrd hq c0
      rw [add_zero_off] at c0
      have CK := Lib.hid (checkF_any wr rv l hrd hq.2.1 hq.2.2)
      rw [hq.1] at CK
      obtain ⟨A, c, rfl⟩ := hrd.form
      have hk3 : (k : Int) < 3 := by omega
      clear hr hrd hq
      go_wp2_with fail
      refine CK.out.mono ?_
      rintro e w2 (⟨_, rfl, b2⟩ | ⟨_, _, _, hn, _⟩)
      · have B3 := Lib.hid (HB.out.trans (b2.mono HB.out.size))
        clear b2 CK c0
        go_wp2
        go_roundw
        case rel => exact ⟨k + 1, by omega, by go_num, B3⟩
        case measure => simp [intOf]; omega
      · cases hn
    · obtain rfl : k = 3 := by omega
      have B4 := Lib.hid (B2.out.trans (HB.out.mono B2.out.size))
      have G4 := Lib.hid (G2.out.below HB.out G2.out.lt)
      clear hlt hk k0
      obtain ⟨gB, hgB⟩ : ∃ g, g = wr.heap.size := ⟨_, rfl⟩
      have SB := Lib.hid (show w.heap.size ≤ gB by rw [hgB]; exact B4.out.size)
      have hgB2 := Lib.hid hgB
      have RW := Lib.hid fun W (hW : Below w.heap.size w W) => (⟨RD.out.1.below hW, RD.out.2.1.below hW, RD.out.2.2.below hW⟩ : Reads 3 cF W (.slice Ab b.length cb) b ∧ Reads 3 cF W (.slice Ao o.length co) o ∧ Reads 3 cF W (.slice At t.length ct) t)
      have B5 := Lib.hid (B4.out.alloc B4.out.size (.cells #[.slice none 0 0, .slice none 0 0, .slice none 0 0] 29))
      have X5 := Lib.hid ((Blk.new wr 29 #[.slice none 0 0, .slice none 0 0, .slice none 0 0]).alloc (.cells #[.slice Ab b.length cb, .slice Ao o.length co, .slice At t.length ct] 23))
      have G5 := Lib.hid ((G4.out.alloc (.cells #[.slice none 0 0, .slice none 0 0, .slice none 0 0] 29)).alloc (.cells #[.slice Ab b.length cb, .slice Ao o.length co, .slice At t.length ct] 23))
      have B6 := Lib.hid (B5.out.alloc B5.out.size (.cells #[.slice Ab b.length cb, .slice Ao o.length co, .slice At t.length ct] 23))
      have hs5 : (wr.alloc (.cells #[.slice none 0 0, .slice none 0 0, .slice none 0 0] 29)).heap.size = gB + 1 := by rw [hgB]; simp
      have T5 := trees3 (wr.alloc (.cells #[.slice none 0 0, .slice none 0 0, .slice none 0 0] 29)) _ _ _ b o t (RW.out _ B5.out).1 (RW.out _ B5.out).2.1 (RW.out _ B5.out).2.2
      rw [hs5] at T5
      have PA := paths_any _ ⟨gB + 1, 0, none⟩ 3 _ T5 (by simp) (by have := LN.out; simp [pathsR]; omega)
      rw [pathsP_eq, ← HP.out] at PA
      have PA2 := Lib.hid (show Calls Tryd.prog 11 #[.slice (some ⟨gB + 1, 0, none⟩) 3 3] _ _ from PA)
      clear PA T5 hs5
      rw [← hgB] at X5
      have S6 := Lib.hid (show gB < ((wr.alloc (.cells #[.slice none 0 0, .slice none 0 0, .slice none 0 0] 29)).alloc (.cells #[.slice Ab b.length cb, .slice Ao o.length co, .slice At t.length ct] 23)).heap.size by rw [hgB]; simp; omega)
      go_wp2_with fail
      rw [← hgB]
      clear hgB
      refine PA2.out.mono ?_
      rintro e wM ⟨u, rfl, oP, bP⟩
      obtain ⟨AP, cP, rfl⟩ := own_form oP
      obtain ⟨M, hM⟩ : ∃ M, M = wM.heap.size := ⟨_, rfl⟩
      have PC := Lib.hid (show ∀ i p, P[i]? = some p → ∃ g, AP = some ⟨g, 0, none⟩ ∧ g ≠ gB ∧ g < M ∧ wM.cell? ⟨g, i, none⟩ = some (.string p) from fun i p hi => by
        obtain ⟨g, h1, h2, h3, h4⟩ := own_str_at oP hi
        exact ⟨g, h1, by have := S6.out; omega, by rw [hM]; exact h3, h4⟩)
      have MS := Lib.hid (show MSt w wM wM gB M (.slice none 0 0) (.slice none 0 0) (.slice none 0 0) (mrgF F (P.take 0)) (mrgE F E (P.take 0)) (mrgC F (P.take 0)) from
        ⟨X5.out.below bP X5.out.lt, World.ownsRow_nil _ _ _ _, World.ownsRow_nil _ _ _ _, World.ownsRow_nil _ _ _ _, B6.out.trans (bP.mono B6.out.size), fun _ _ _ => rfl, by rw [hM]; exact Nat.le_refl _, by rw [hM]; have := S6.out; have := bP.size; omega, SB.out⟩)
      have G7 := Lib.hid (G5.out.below bP G5.out.lt)
      have p0 : (0 : Int) ≤ (P.length : Int) := Int.natCast_nonneg _
      have p192 : (P.length : Int) ≤ 192 := by have := PL.out; omega
      have HGB := Lib.hid (show g0 < gB by rw [hgB2.out]; exact G4.out.lt)
      clear PA2 X5 G5 B5 B6 S6 oP bP hM B4 G4 HB TR B2
      go_wp2_with fail
      go_loopw [44] (fun s44 wq => ∃ (k : Nat) (vf ve vc : Value), k ≤ P.length ∧ s44 = .int .i64 k ∧ Hid (MSt w wM wq gB M vf ve vc (mrgF F (P.take k)) (mrgE F E (P.take k)) (mrgC F (P.take k)))) (fun s44 _ => P.length - (intOf s44).toNat)
      case atStart => exact ⟨0, _, _, _, Nat.zero_le _, rfl, MS⟩
      case round =>
        obtain ⟨k, vf, ve, vc, hk, rfl, HM⟩ := hrel
        have k0 : (0 : Int) ≤ (k : Int) := Int.natCast_nonneg _
        by_cases hlt : k < P.length
        · obtain ⟨p, hp⟩ : ∃ p, P[k]? = some p := ⟨_, List.getElem?_eq_getElem hlt⟩
          obtain ⟨gP, rfl, hne, hgM, hc⟩ := PC.out k p hp
          have c0 : wr.cell? ⟨gP, k, none⟩ = some (.string p) := (cell_heap (HM.out.k gP hgM hne)).trans hc
          have hk1 : (k : Int) < (P.length : Int) := by omega
          have hRW := RW.out _ HM.out.b
          have ON := one_any wr p _ _ _ b o t a n hRW.1 hRW.2.1 hRW.2.2 RI.out.1 RI.out.2.1 RI.out.2.2 (by have := LN.out; omega) (by have := LN.out; omega) (by have := LN.out; omega) (x p) (HT.out p (List.mem_of_getElem? hp)) (HX.out p)
          rw [HF.out p] at ON
          unfold OneTold at ON
          have ON1 := Lib.hid ON
          have SF := Lib.hid (mrgF_snoc F hp)
          have SC := Lib.hid (mrgC_snoc F hp)
          have SE := Lib.hid (mrgE_snoc F E hp)
          have LF := Lib.hid (show (mrgF F (P.take k)).length ≤ 192 by have h := mrgF_len F (P.take k); rw [List.length_take] at h; have := PL.out; omega)
          have LC := Lib.hid (show (mrgC F (P.take k)).length ≤ 192 by have h := mrgC_len F (P.take k); rw [List.length_take] at h; have := PL.out; omega)
          have LE := Lib.hid (show (mrgE F E (P.take k)).length ≤ 600 by have h := mrgE_len F E HE3.out (P.take k); rw [List.length_take] at h; have := PL.out; omega)
          have T2 := Lib.hid (HF2.out p)
          obtain ⟨fs, hfs⟩ : ∃ l, l = mrgF F (P.take k) := ⟨_, rfl⟩
          obtain ⟨es, hes⟩ : ∃ l, l = mrgE F E (P.take k) := ⟨_, rfl⟩
          obtain ⟨cs, hcs⟩ : ∃ l, l = mrgC F (P.take k) := ⟨_, rfl⟩
          rw [← hfs] at HM SF LF
          rw [← hes] at HM SE LE
          rw [← hcs] at HM SC LC
          obtain ⟨r, hr⟩ : ∃ r, r = F p := ⟨_, rfl⟩
          rw [← hr] at ON1 SF SC SE T2
          clear ON hp hc hne hgM hRW hr hfs hes hcs
          have HLT := Lib.hid hlt
          go_upto_region 13 with (go_at_call 9; refine ON1.out.mono ?_; rintro e w2 ⟨rfl, b2⟩; have M2 := Lib.hid (HM.out.below b2); have B2 := Lib.hid b2.size; clear b2)
          obtain ⟨r1, r2⟩ := r
          dsimp only at SF SC SE T2
          have M3 := Lib.hid (M2.out.alloc (.cells (fileA r1) 36))
          have Z3 := Lib.hid (Blk.new w2 36 (fileA r1))
          have hz2 : ∃ z, z = w2.heap.size := ⟨_, rfl⟩
          obtain ⟨z, hz⟩ := hz2
          rw [← hz] at Z3 ⊢
          clear hz B2 M2 HM
          generalize hW3 : w2.alloc (.cells (fileA r1) 36) = w3 at *
          clear hW3
          cases r1 with
          | none =>
            cases r2 with
            | true => obtain ⟨f, hf⟩ := T2.out rfl; cases hf
            | false =>
              have SF' := Lib.hid (SF.out.trans (List.append_nil fs))
              have SC' := Lib.hid (SC.out.trans (List.append_nil cs))
              have SE' := Lib.hid (SE.out.trans (List.append_nil es))
              clear c0 SF SC SE
              go_wp2
              go_roundw
              case rel => exact ⟨k + 1, _, _, _, by have := HLT.out; omega, by go_num, Lib.hid (by rw [SF'.out, SC'.out, SE'.out]; exact M3.out)⟩
              case measure => have := HLT.out; simp [intOf]; omega
          | some fl =>
            have z0 := Z3.out.cell 0
            have z1 := Z3.out.cell 1
            have z2 := Z3.out.cell 2
            have x0 := M3.out.x.cell 0
            have M4 := Lib.hid (M3.out.alloc (.cells #[.string fl.1, .int .i64 fl.2.1, .string fl.2.2] 36))
            have R4 := Lib.hid (reads_one_file fl (Blk.new w3 36 #[.string fl.1, .int .i64 fl.2.1, .string fl.2.2]))
            obtain ⟨Af, cf, hvf⟩ := own_form M3.out.f
            subst hvf
            go_upto_region 15 with (at_builtin; go_loud (refine wpList_append_files (w3.alloc (.cells #[.string fl.1, .int .i64 fl.2.1, .string fl.2.2] 36)) rfl (.tmp 61) (.tmp 63) rfl M _ fs [fl] rfl M4.out.f _ _ _ rfl R4.out (by have := LF.out; simp; omega) M4.out.s ?_; intro A' c' w5 o5 b5 g5; have x5 := (b5.block gB M4.out.g).trans M4.out.x; have y0 := Blk.cell x5 0; have q0 := Blk.frozen x5 0; have M5 := Lib.hid (show MSt w wM (w5.setCell ⟨gB, 0, none⟩ (.slice A' (fs.length + 1) c')) gB M (.slice A' (fs.length + 1) c') ve vc (fs ++ [fl]) es cs from (by have h := M4.out.putF o5 b5 g5; rw [show (fs ++ [fl]).length = fs.length + 1 from (by simp)] at h; exact h)); clear o5 b5 g5 x5))
            clear x0 z0 z1 z2 y0 q0 M4 R4 M3 Z3 c0
            generalize hW6 : w5.setCell ⟨gB, 0, none⟩ (.slice A' (fs.length + 1) c') = w6 at *
            clear hW6
            obtain ⟨vF, hvF⟩ : ∃ v, v = Value.slice A' (fs.length + 1) c' := ⟨_, rfl⟩
            rw [← hvF] at M5
            clear hvF
            cases r2 with
            | false =>
              have SF' := Lib.hid (show mrgF F (P.take (k + 1)) = fs ++ [fl] from SF.out)
              have SC' := Lib.hid (SC.out.trans (List.append_nil cs))
              have SE' := Lib.hid (SE.out.trans (List.append_nil es))
              clear SF SC SE
              go_wp2
              go_roundw
              case rel => exact ⟨k + 1, _, _, _, by have := HLT.out; omega, by go_num, Lib.hid (by rw [SF'.out, SC'.out, SE'.out]; exact M5.out)⟩
              case measure => have := HLT.out; simp [intOf]; omega
            | true =>
              have SF' := Lib.hid (show mrgF F (P.take (k + 1)) = fs ++ [fl] from SF.out)
              have SC' := Lib.hid (show mrgC F (P.take (k + 1)) = cs ++ [p] from SC.out)
              have SE' := Lib.hid (show mrgE F E (P.take (k + 1)) = es ++ E p from SE.out)
              clear SF SC SE
              have x2 := M5.out.x.cell 2
              have M7 := Lib.hid (M5.out.alloc (.cells #[.string p] 9))
              have R7 := Lib.hid (strs_one p (Blk.new w6 9 #[.string p]))
              obtain ⟨Ac, cc, hvc⟩ := own_form M5.out.c
              subst hvc
              go_upto_region 17 with (at_builtin; go_loud (refine wpList_append_strs (w6.alloc (.cells #[.string p] 9)) rfl (.tmp 68) (.tmp 70) rfl M cs.length _ cs [p] rfl M7.out.c _ 1 _ rfl R7.out (by have := LC.out; omega) M7.out.s ?_; intro A8 m8 c8 w8 o8 b8 g8; obtain rfl := own_len1 o8; have x8 := (b8.block gB M7.out.g).trans M7.out.x; have y0 := Blk.cell x8 2; have q0 := Blk.frozen x8 2; have M8 := Lib.hid (show MSt w wM (w8.setCell ⟨gB, 2, none⟩ (.slice A8 (cs.length + 1) c8)) gB M vF ve (.slice A8 (cs.length + 1) c8) (fs ++ [fl]) es (cs ++ [p]) from (by refine M7.out.putC ?_ b8 g8; rw [show (cs ++ [p]).length = cs.length + 1 from (by simp)]; exact o8)); clear o8 b8 g8 x8))
              clear x2 M7 R7 M5 y0 q0
              generalize hW9 : w8.setCell ⟨gB, 2, none⟩ (.slice A8 (cs.length + 1) c8) = w9 at *
              clear hW9
              obtain ⟨vC, hvC⟩ : ∃ v, v = Value.slice A8 (cs.length + 1) c8 := ⟨_, rfl⟩
              rw [← hvC] at M8
              clear hvC
              have M9 := Lib.hid (M8.out.below (Below.refl w9.heap.size w9).drew)
              obtain ⟨Ae, ce, hve⟩ := own_form M9.out.e
              subst hve
              have hR9 := RW.out _ M9.out.b
              have EN := entries_any w9.drew p _ _ _ b o t hR9.1 hR9.2.1 hR9.2.2 RI.out.1 RI.out.2.1 RI.out.2.2 (by have := LN.out; omega) (by have := LN.out; omega) (by have := LN.out; omega)
              rw [HE.out p] at EN
              have EN1 := Lib.hid EN
              have E3 := Lib.hid (HE3.out p)
              clear hR9 EN M8
              have x1 := M9.out.x.cell 1
              obtain ⟨ne, hne⟩ : ∃ m, m = (es ++ E p).length := ⟨_, rfl⟩
              have NE := Lib.hid hne
              clear hne
              go_region_law (first
                | (go_simp; go_at_call 12; refine EN1.out.mono ?_; rintro e w10 ⟨u, rfl, o10, b10⟩; obtain ⟨A10, c10, rfl⟩ := own_form o10; have M10 := Lib.hid (M9.out.below b10); have R10 := Lib.hid (Reads.of_own cE_len o10); have x10 := M10.out.x.cell 1; clear o10 b10; dsimp only)
                | (refine step_append_ents w10 rfl (.tmp 74) (.tmp 79) rfl M (.slice Ae es.length ce) es (E p) rfl M10.out.e _ _ _ rfl R10.out (by have := LE.out; have := E3.out; omega) M10.out.s ne NE.out ?_; intro A11 c11 w11 o11 b11 g11; have x11 := (b11.block gB M10.out.g).trans M10.out.x; have y0 := Blk.cell x11 1; have q0 := Blk.frozen x11 1; have M11 := Lib.hid (show MSt w wM (w11.setCell ⟨gB, 1, none⟩ (.slice A11 ne c11)) gB M vF (.slice A11 ne c11) vC (fs ++ [fl]) (es ++ E p) (cs ++ [p]) from M10.out.putE o11 b11 g11); clear o11 b11 g11 x11))
              all_goals
                clear x1 x10 y0 q0
                go_wp2
                go_roundw
                case rel => exact ⟨k + 1, _, _, _, by have := HLT.out; omega, by go_num, Lib.hid (by rw [SF'.out, SC'.out, SE'.out]; exact M11.out)⟩
                case measure => have := HLT.out; simp [intOf]; omega
        · obtain rfl : k = P.length := by omega
          have HM2 := Lib.hid (show MSt w wM wr gB M vf ve vc (mrgF F P) (mrgE F E P) (mrgC F P) by have := HM.out; rw [List.take_length] at this; exact this)
          clear HM
          have G8 := Lib.hid (show Blk wr g0 29 #[.slice none 0 0, .slice none 0 0, .slice none 0 0] from (HM2.out.k g0 (by have := HG0.out.1; have := SB.out; have := HM2.out.g; have := HGB.out; omega) (by have := HGB.out; omega)).trans G7.out)
          obtain ⟨Af, cf, hvf⟩ := own_form HM2.out.f
          subst hvf
          have WA := Lib.hid (ways_any wr _ (mrgF F P) (Reads.of_own cF_len HM2.out.f) HSZ.out (by have := mrgF_len F P; have := PL.out; omega))
          have x0 := HM2.out.x.cell 0
          have HW := Lib.hid (show w.heap.size ≤ g0 by rw [HG0.out.1]; exact Nat.le_refl _)
          clear PC MS G7
          go_wp2_with fail
          refine WA.out.mono ?_
          rintro e w2 (⟨hn, rfl, b2⟩ | ⟨i, kk, Fb, hn, rfl, hF, hFa, b2⟩)
          · have M9 := Lib.hid (HM2.out.below b2)
            have G9 := Lib.hid (G8.out.below b2 G8.out.lt)
            have HN := Lib.hid hn
            clear x0 b2 hn HM2 G8
            have x0 := M9.out.x.cell 0
            have x1 := M9.out.x.cell 1
            have x2 := M9.out.x.cell 2
            have y0 := G9.out.cell 0
            have y1 := G9.out.cell 1
            have y2 := G9.out.cell 2
            have q0 := G9.out.frozen 0
            have q1 := G9.out.frozen 1
            have q2 := G9.out.frozen 2
            obtain ⟨Ae, ce, hve⟩ := own_form M9.out.e
            subst hve
            obtain ⟨Ac, cc, hvc⟩ := own_form M9.out.c
            subst hvc
            go_wp2
            have HM3 := Lib.hid (show g0 < M ∧ w.heap.size ≤ M by have := HW.out; have := M9.out.g; have := HGB.out; omega)
            exact bodyPost_ret (results_row_tmp (fn := Tryd.f7) rfl _ _ g0 29 #[.slice Af (mrgF F P).length cf, .slice Ae (mrgE F E P).length ce, .slice Ac (mrgC F P).length cc] (0, 0) _ rfl (row3r G9.out rfl _ _ _) Tryd.underlying29 rfl resSize) rfl
              (.inl ⟨HN.out, _, _, _, rfl, own3 M9.out.f HM3.out.1 HM3.out.2 _ _ _, own3 M9.out.e HM3.out.1 HM3.out.2 _ _ _, own3 M9.out.c HM3.out.1 HM3.out.2 _ _ _, below3 M9.out.b HW.out _ _ _⟩)
          · have G9 := Lib.hid (G8.out.below b2 G8.out.lt)
            have B9 := Lib.hid (HM2.out.b.trans (b2.mono HM2.out.b.size))
            have HN := Lib.hid (show wayV (mrgF F P) = some (i, kk) ∧ wr.heap.size ≤ Fb ∧ FaultOf Fb bFile i kk w2 ∧ g0 < wr.heap.size from ⟨hn, hF, hFa, G8.out.lt⟩)
            have WS := Lib.hid HM2.out.b.size
            clear x0 b2 hn hF hFa HM2 G8
            have y0 := G9.out.cell 0
            have y1 := G9.out.cell 1
            have y2 := G9.out.cell 2
            have q0 := G9.out.frozen 0
            have q1 := G9.out.frozen 1
            have q2 := G9.out.frozen 2
            go_wp2
            exact bodyPost_ret (results_row_tmp (fn := Tryd.f7) rfl _ _ g0 29 #[.slice none 0 0, .slice none 0 0, .slice none 0 0] (0, 0) _ rfl (row3r G9.out rfl _ _ _) Tryd.underlying29 rfl resSize) rfl
              (.inr ⟨i, kk, Fb, HN.out.1, rfl, Nat.le_trans WS.out HN.out.2.1, (heap3 w2 (by have := HN.out.2.1; have := HN.out.2.2.2; omega) _ _ _).trans HN.out.2.2.1, below3 B9.out HW.out _ _ _⟩)
end Go.Proofs.YtapcnmnnichamaaDoor
