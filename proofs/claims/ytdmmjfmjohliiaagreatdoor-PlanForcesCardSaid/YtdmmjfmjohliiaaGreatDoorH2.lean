/-
  rectolaw20.Few: whether a tree, a result, an index, a folder are such that a play is worth its while.
-/
import Derived.Test.YtdmmjfmjohliiaaGreatDoorG6
import Derived.Test.YtdmmjfmjohliiaaGreatDoorH1
import Derived.Test.YtdmmjfmjohliiaaGreatDoorG4
namespace Go.Proofs.YtdmmjfmjohliiaaGreatDoor
open Go Go.RowKit

def SmallE (l : List En) : Prop := l.length ≤ 80 ∧ ∀ x ∈ l, x.1.size ≤ 100 ∧ x.2.2.2.1.size ≤ 5000
theorem SmallE.sizedD {l : List En} (h : SmallE l) : SizedDE l := fun x hx => ⟨by have := (h.2 x hx).1; omega, by have := (h.2 x hx).2; omega⟩
theorem SmallE.sized {l : List En} (h : SmallE l) : SizedE l := fun x hx => by have := (h.2 x hx).1; omega
/-- All that Few asks. -/
def Few20 (h tl : List Fl) (cf : List ByteArray) (en ix : List En) (wk : List Fl) : Prop :=
  SmallF h ∧ SmallF tl ∧ SmallE en ∧ cf.length ≤ 40 ∧ SmallE ix ∧ SmallF wk ∧ chkF h = none ∧ chkF tl = none ∧ chkE ix = none ∧ chkF wk = none ∧ chkE en = none ∧ nrm (confE en) = cf
def AnsTo (W1 : World) (P : Prop) (e : Ending) (w' : World) : Prop := ∃ b : Bool, e = .returned (.bool b) ∧ (b = true → P) ∧ Below W1.heap.size W1 w'
def ErrTo (W1 : World) (P : Prop) (e : Ending) (w' : World) : Prop :=
  (e = .returned .nilIface ∧ P ∧ Below W1.heap.size W1 w') ∨ (∃ F : Nat, e = .returned (.iface 77 (.pointer (some ⟨F, 0, none⟩))) ∧ Below W1.heap.size W1 w')
theorem fewF_at {W1 : World} {v : Value} {l : List Fl} (h : Reads 3 cF W1 v l) (V : World) (hV : Below W1.heap.size W1 V) : Calls Tryz.prog 28 #[v] V (AnsTo W1 (SmallF l)) :=
  (fewF_any V v l (h.below hV)).mono fun e w' ⟨b, he, hb, q, hw⟩ => ⟨b, he, hb, by subst hw; exact below_drewN hV q⟩
theorem fewE_at {W1 : World} {v : Value} {l : List En} (h : Reads 6 cE W1 v l) (V : World) (hV : Below W1.heap.size W1 V) : Calls Tryz.prog 30 #[v] V (AnsTo W1 (SmallE l)) :=
  (fewE_any V v l (h.below hV)).mono fun e w' ⟨b, he, hb, q, hw⟩ => ⟨b, he, hb, by subst hw; exact below_drewN hV q⟩
theorem checkF_at {W1 : World} {v : Value} {l : List Fl} (h : Reads 3 cF W1 v l) (V : World) (hV : Below W1.heap.size W1 V) (hs : SmallF l) : Calls Tryz.prog 29 #[v] V (ErrTo W1 (chkF l = none)) :=
  (checkF_any V v l (h.below hV) hs.sizedD (by have := hs.1; omega)).mono fun e w' hh => by
    rcases hh with ⟨hc, he, hb⟩ | ⟨i, k, F, _, he, _, _, hb⟩
    · exact .inl ⟨he, hc, hV.trans (hb.mono hV.size)⟩
    · exact .inr ⟨F, he, hV.trans (hb.mono hV.size)⟩
theorem checkE_at {W1 : World} {v : Value} {l : List En} (h : Reads 6 cE W1 v l) (V : World) (hV : Below W1.heap.size W1 V) (hs : SmallE l) : Calls Tryz.prog 31 #[v] V (ErrTo W1 (chkE l = none)) :=
  (checkE_any V v l (h.below hV) hs.sizedD (by have := hs.1; omega)).mono fun e w' hh => by
    rcases hh with ⟨hc, he, hb⟩ | ⟨i, k, F, _, he, _, _, hb⟩
    · exact .inl ⟨he, hc, hV.trans (hb.mono hV.size)⟩
    · exact .inr ⟨F, he, hV.trans (hb.mono hV.size)⟩
def RowAt (W1 : World) (l : List ByteArray) (e : Ending) (w' : World) : Prop := ∃ u, e = .returned u ∧ Strs w' u l ∧ Below W1.heap.size W1 w'
theorem conf_at {W1 : World} {v : Value} {l : List En} (h : Reads 6 cE W1 v l) (V : World) (hV : Below W1.heap.size W1 V) (hl : l.length ≤ 80) : Calls Tryz.prog 32 #[v] V (RowAt W1 (nrm (confE l))) :=
  (conflicts_any V v l (h.below hV) (by omega)).mono fun e w' ⟨u, he, ho, hb⟩ => ⟨u, he, Strs.of_own ho rfl, hV.trans (hb.mono hV.size)⟩
theorem texts_at {W1 : World} {v : Value} {cf : List ByteArray} (h : Strs W1 v cf) (V : World) (hV : Below W1.heap.size W1 V) (xs : List ByteArray) (u : Value) (hu : Strs V u xs) : Calls Tryz.prog 14 #[u, v] V (AnsTo W1 (xs = cf)) :=
  (rTexts_any V u v xs cf hu (h.below hV)).mono fun e w' ⟨he, q, hw⟩ => ⟨_, he, of_decide_eq_true, by subst hw; exact below_drewN hV q⟩
def FewTo20 (h tl : List Fl) (cf : List ByteArray) (en ix : List En) (wk : List Fl) (w : World) (e : Ending) (w' : World) : Prop := ∃ b : Bool, e = .returned (.bool b) ∧ (b = true → Few20 h tl cf en ix wk) ∧ Below w.heap.size w w'

set_option maxRecDepth 100000 in
set_option maxHeartbeats 16000000 in
theorem few20_any (w : World) (v t E c ixv wv : Value) (h tl wk : List Fl) (cf : List ByteArray) (en ix : List En)
    (hv : Reads 3 cF w v h) (tv : Reads 3 cF w t tl) (ev : Reads 6 cE w E en) (cv : Strs w c cf) (iv : Reads 6 cE w ixv ix) (kv : Reads 3 cF w wv wk) :
    Calls Tryz.prog 8 #[v, .agg #[t, E, c], ixv, wv] w (FewTo20 h tl cf en ix wk w) := by
  obtain ⟨W1, hW1⟩ : ∃ W1, W1 = w.alloc (.cells #[t, E, c] 27) := ⟨_, rfl⟩
  have B1 : Below w.heap.size w W1 := by rw [hW1]; exact (Below.refl _ _).alloc (Nat.le_refl _) _
  obtain ⟨G, hG⟩ : ∃ G, G = w.heap.size := ⟨_, rfl⟩
  have K1 : W1.heap[G]? = some (.cells #[t, E, c] 27 (0, 0)) := by rw [hW1, hG]; exact heap_alloc_new w _
  have hGl : G < W1.heap.size := (Array.getElem?_eq_some_iff.1 K1).1
  have SS := Lib.hid (show ∀ V, Below W1.heap.size W1 V → (fun w' => w'.cell? ⟨G, 0, none⟩ = some t ∧ w'.cell? ⟨G, 1, none⟩ = some E ∧ w'.cell? ⟨G, 2, none⟩ = some c) V from fun V hV =>
    ⟨cell_of_row V G 0 _ 27 (0, 0) ((hV.block G hGl).trans K1), cell_of_row V G 1 _ 27 (0, 0) ((hV.block G hGl).trans K1), cell_of_row V G 2 _ 27 (0, 0) ((hV.block G hGl).trans K1)⟩)
  have FH := Lib.hid fun V hV => fewF_at (hv.below B1) V hV
  have FT := Lib.hid fun V hV => fewF_at (tv.below B1) V hV
  have FEN := Lib.hid fun V hV => fewE_at (ev.below B1) V hV
  have FIX := Lib.hid fun V hV => fewE_at (iv.below B1) V hV
  have FWK := Lib.hid fun V hV => fewF_at (kv.below B1) V hV
  have CH := Lib.hid fun V hV hs => checkF_at (hv.below B1) V hV hs
  have CT := Lib.hid fun V hV hs => checkF_at (tv.below B1) V hV hs
  have CIX := Lib.hid fun V hV hs => checkE_at (iv.below B1) V hV hs
  have CWK := Lib.hid fun V hV hs => checkF_at (kv.below B1) V hV hs
  have CEN := Lib.hid fun V hV hs => checkE_at (ev.below B1) V hV hs
  have CONF := Lib.hid fun V hV hl => conf_at (ev.below B1) V hV hl
  have TX := Lib.hid fun V hV u hu => texts_at (cv.below B1) V hV (nrm (confE en)) u hu
  have HB0 := Lib.hid B1
  have BZ := Lib.hid (Below.refl W1.heap.size W1)
  have q1 := fileEql
  have q4 := nilEql
  obtain ⟨Ac, cc, rfl⟩ := strs_form cv
  clear hv tv ev cv iv kv K1 B1
  go_enter Tryz.func8, Tryz.ntmps8
  go_upto_region 1 with fail
  rw [← hW1, ← hG]
  clear hW1 hG
  refine wp_region_held_drew (S := fun w' => w'.cell? ⟨G, 0, none⟩ = some t ∧ w'.cell? ⟨G, 1, none⟩ = some E ∧ w'.cell? ⟨G, 2, none⟩ = some (.slice Ac cf.length cc)) (by kernel_rfl) (SS.out _ (by first | exact Below.refl _ _ | exact below_drewN (Below.refl _ _) _)) (fun hHeld => ?_)
  refine wpAnyH_take (i := 0) (oi := ⟨some 9, .move (.tmp 0), 23, "law.go:34", #[], none⟩) (v := ?vz0_0) rfl (by kernel_rfl) (by kernel_rfl) (by kernel_rfl) (fun _ _ _ h => h) (Or.inl ⟨by rfl, ?yz0_0⟩) (by assumption) ?rz0_0
  case yz0_0 => (intro w' hSw; (try dsimp only at hSw); go_simp; try with_reducible rfl)
  try simp only [Act.put, List.setIfInBounds_toArray, List.set_cons_zero, List.set_cons_succ]
  refine wpAnyH_ready (rs := [1]) (by kernel_rfl) (by simp) ?_
  refine AllReadyH.cons (o := ⟨some 10, .call { callee := .value (.func 28), args := #[.tmp 9], argTypes := #[23] }, 4, "law.go:34", #[⟨0, .data⟩], none⟩) rfl (fun K hK => ?_) AllReadyH.nil
  go_simp
  go_at_call 28
  refine (FH.out _ (by first | exact BZ.out | exact BZ.out.drew | exact below_drewN BZ.out _)).mono ?_
  rintro e x1 ⟨b, rfl, hb, bb⟩
  have B1x := Lib.hid bb
  clear bb
  cases b with
  | false =>
    clear hb
    go_wp2_with fail
    refine hK.out _ _ (SS.out _ B1x.out) (fun hHeld1 => ?_)
    clear hK K hHeld
    try simp only [Act.put, List.setIfInBounds_toArray, List.set_cons_zero, List.set_cons_succ]
    refine wpAnyH_take (i := 2) (oi := ⟨some 11, .move (.tmp 10), 4, "law.go:34", #[⟨1, .data⟩, ⟨1, .chain⟩], none⟩) (v := ?vz1_2) rfl (by kernel_rfl) (by kernel_rfl) (by kernel_rfl) (fun _ _ _ h => h) (Or.inl ⟨by rfl, ?yz1_2⟩) (by assumption) ?rz1_2
    case yz1_2 => (intro w' hSw; (try dsimp only at hSw); go_simp; try with_reducible rfl)
    try simp only [Act.put, List.setIfInBounds_toArray, List.set_cons_zero, List.set_cons_succ]
    refine wpAnyH_take (i := 3) (oi := ⟨some 12, .fieldAddr 27 (.tmp 5) 0, 0, "law.go:34", #[⟨2, .guard⟩], some (2, true)⟩) (v := undef) rfl (by kernel_rfl) (by kernel_rfl) (by kernel_rfl) (fun _ _ _ h => h) (Or.inr ⟨by rfl, rfl⟩) (by assumption) ?_
    try simp only [Act.put, List.setIfInBounds_toArray, List.set_cons_zero, List.set_cons_succ]
    refine wpAnyH_take (i := 4) (oi := ⟨some 13, .load 23 (.tmp 12), 23, "law.go:34", #[⟨3, .data⟩, ⟨2, .guard⟩], some (2, true)⟩) (v := undef) rfl (by kernel_rfl) (by kernel_rfl) (by kernel_rfl) (fun _ _ _ h => h) (Or.inr ⟨by rfl, rfl⟩) (by assumption) ?_
    try simp only [Act.put, List.setIfInBounds_toArray, List.set_cons_zero, List.set_cons_succ]
    refine wpAnyH_take (i := 5) (oi := ⟨some 14, .call { callee := .value (.func 28), args := #[.tmp 13], argTypes := #[23] }, 4, "law.go:34", #[⟨4, .data⟩, ⟨2, .chain⟩, ⟨2, .guard⟩], some (2, true)⟩) (v := undef) rfl (by kernel_rfl) (by kernel_rfl) (by kernel_rfl) (fun _ _ _ h => h) (Or.inr ⟨by rfl, rfl⟩) (by assumption) ?_
    try simp only [Act.put, List.setIfInBounds_toArray, List.set_cons_zero, List.set_cons_succ]
    refine wpAnyH_take (i := 6) (oi := ⟨some 15, .pick (.tmp 11) (.tmp 14) (.const (Value.bool false)), 4, "law.go:34", #[⟨2, .data⟩, ⟨5, .data⟩], none⟩) (v := ?vz5_6) rfl (by kernel_rfl) (by kernel_rfl) (by kernel_rfl) (fun _ _ _ h => h) (Or.inl ⟨by rfl, ?yz5_6⟩) (by assumption) ?rz5_6
    case yz5_6 => (intro w' hSw; (try dsimp only at hSw); go_simp; try with_reducible rfl)
    try simp only [Act.put, List.setIfInBounds_toArray, List.set_cons_zero, List.set_cons_succ]
    refine wpAnyH_take (i := 7) (oi := ⟨some 16, .move (.tmp 15), 4, "law.go:34", #[⟨6, .data⟩, ⟨5, .chain⟩], none⟩) (v := ?vz6_7) rfl (by kernel_rfl) (by kernel_rfl) (by kernel_rfl) (fun _ _ _ h => h) (Or.inl ⟨by rfl, ?yz6_7⟩) (by assumption) ?rz6_7
    case yz6_7 => (intro w' hSw; (try dsimp only at hSw); go_simp; try with_reducible rfl)
    try simp only [Act.put, List.setIfInBounds_toArray, List.set_cons_zero, List.set_cons_succ]
    refine wpAnyH_take (i := 8) (oi := ⟨some 17, .fieldAddr 27 (.tmp 5) 1, 0, "law.go:34", #[⟨7, .guard⟩], some (7, true)⟩) (v := undef) rfl (by kernel_rfl) (by kernel_rfl) (by kernel_rfl) (fun _ _ _ h => h) (Or.inr ⟨by rfl, rfl⟩) (by assumption) ?_
    try simp only [Act.put, List.setIfInBounds_toArray, List.set_cons_zero, List.set_cons_succ]
    refine wpAnyH_take (i := 9) (oi := ⟨some 18, .load 24 (.tmp 17), 24, "law.go:34", #[⟨8, .data⟩, ⟨7, .guard⟩], some (7, true)⟩) (v := undef) rfl (by kernel_rfl) (by kernel_rfl) (by kernel_rfl) (fun _ _ _ h => h) (Or.inr ⟨by rfl, rfl⟩) (by assumption) ?_
    try simp only [Act.put, List.setIfInBounds_toArray, List.set_cons_zero, List.set_cons_succ]
    refine wpAnyH_take (i := 10) (oi := ⟨some 19, .call { callee := .value (.func 30), args := #[.tmp 18], argTypes := #[24] }, 4, "law.go:34", #[⟨9, .data⟩, ⟨7, .chain⟩, ⟨7, .guard⟩], some (7, true)⟩) (v := undef) rfl (by kernel_rfl) (by kernel_rfl) (by kernel_rfl) (fun _ _ _ h => h) (Or.inr ⟨by rfl, rfl⟩) (by assumption) ?_
    try simp only [Act.put, List.setIfInBounds_toArray, List.set_cons_zero, List.set_cons_succ]
    refine wpAnyH_take (i := 11) (oi := ⟨some 20, .pick (.tmp 16) (.tmp 19) (.const (Value.bool false)), 4, "law.go:34", #[⟨7, .data⟩, ⟨10, .data⟩], none⟩) (v := ?vz10_11) rfl (by kernel_rfl) (by kernel_rfl) (by kernel_rfl) (fun _ _ _ h => h) (Or.inl ⟨by rfl, ?yz10_11⟩) (by assumption) ?rz10_11
    case yz10_11 => (intro w' hSw; (try dsimp only at hSw); go_simp; try with_reducible rfl)
    try simp only [Act.put, List.setIfInBounds_toArray, List.set_cons_zero, List.set_cons_succ]
    refine wpAnyH_take (i := 12) (oi := ⟨some 21, .move (.tmp 20), 4, "law.go:34", #[⟨11, .data⟩, ⟨10, .chain⟩], none⟩) (v := ?vz11_12) rfl (by kernel_rfl) (by kernel_rfl) (by kernel_rfl) (fun _ _ _ h => h) (Or.inl ⟨by rfl, ?yz11_12⟩) (by assumption) ?rz11_12
    case yz11_12 => (intro w' hSw; (try dsimp only at hSw); go_simp; try with_reducible rfl)
    try simp only [Act.put, List.setIfInBounds_toArray, List.set_cons_zero, List.set_cons_succ]
    refine wpAnyH_take (i := 13) (oi := ⟨some 22, .fieldAddr 27 (.tmp 5) 2, 0, "law.go:34", #[⟨12, .guard⟩], some (12, true)⟩) (v := undef) rfl (by kernel_rfl) (by kernel_rfl) (by kernel_rfl) (fun _ _ _ h => h) (Or.inr ⟨by rfl, rfl⟩) (by assumption) ?_
    try simp only [Act.put, List.setIfInBounds_toArray, List.set_cons_zero, List.set_cons_succ]
    refine wpAnyH_take (i := 14) (oi := ⟨some 23, .load 25 (.tmp 22), 25, "law.go:34", #[⟨13, .data⟩, ⟨12, .guard⟩], some (12, true)⟩) (v := undef) rfl (by kernel_rfl) (by kernel_rfl) (by kernel_rfl) (fun _ _ _ h => h) (Or.inr ⟨by rfl, rfl⟩) (by assumption) ?_
    try simp only [Act.put, List.setIfInBounds_toArray, List.set_cons_zero, List.set_cons_succ]
    refine wpAnyH_take (i := 15) (oi := ⟨some 24, .call { callee := .builtin .len, args := #[.tmp 23], argTypes := #[25] }, 3, "law.go:34", #[⟨14, .data⟩, ⟨12, .guard⟩], some (12, true)⟩) (v := undef) rfl (by kernel_rfl) (by kernel_rfl) (by kernel_rfl) (fun _ _ _ h => h) (Or.inr ⟨by rfl, rfl⟩) (by assumption) ?_
    try simp only [Act.put, List.setIfInBounds_toArray, List.set_cons_zero, List.set_cons_succ]
    refine wpAnyH_take (i := 16) (oi := ⟨some 25, .binOp .leq 3 (.tmp 24) (.const (Value.int IntKind.i64 40)) 3, 4, "law.go:34", #[⟨15, .data⟩, ⟨12, .guard⟩], some (12, true)⟩) (v := undef) rfl (by kernel_rfl) (by kernel_rfl) (by kernel_rfl) (fun _ _ _ h => h) (Or.inr ⟨by rfl, rfl⟩) (by assumption) ?_
    try simp only [Act.put, List.setIfInBounds_toArray, List.set_cons_zero, List.set_cons_succ]
    refine wpAnyH_take (i := 17) (oi := ⟨some 26, .pick (.tmp 21) (.tmp 25) (.const (Value.bool false)), 4, "law.go:34", #[⟨12, .data⟩, ⟨16, .data⟩], none⟩) (v := ?vz16_17) rfl (by kernel_rfl) (by kernel_rfl) (by kernel_rfl) (fun _ _ _ h => h) (Or.inl ⟨by rfl, ?yz16_17⟩) (by assumption) ?rz16_17
    case yz16_17 => (intro w' hSw; (try dsimp only at hSw); go_simp; try with_reducible rfl)
    try simp only [Act.put, List.setIfInBounds_toArray, List.set_cons_zero, List.set_cons_succ]
    refine wpAnyH_take (i := 18) (oi := ⟨some 27, .move (.tmp 26), 4, "law.go:34", #[⟨17, .data⟩, ⟨12, .chain⟩], none⟩) (v := ?vz17_18) rfl (by kernel_rfl) (by kernel_rfl) (by kernel_rfl) (fun _ _ _ h => h) (Or.inl ⟨by rfl, ?yz17_18⟩) (by assumption) ?rz17_18
    case yz17_18 => (intro w' hSw; (try dsimp only at hSw); go_simp; try with_reducible rfl)
    try simp only [Act.put, List.setIfInBounds_toArray, List.set_cons_zero, List.set_cons_succ]
    refine wpAnyH_take (i := 19) (oi := ⟨some 28, .move (.tmp 2), 24, "law.go:34", #[⟨18, .guard⟩], some (18, true)⟩) (v := undef) rfl (by kernel_rfl) (by kernel_rfl) (by kernel_rfl) (fun _ _ _ h => h) (Or.inr ⟨by rfl, rfl⟩) (by assumption) ?_
    try simp only [Act.put, List.setIfInBounds_toArray, List.set_cons_zero, List.set_cons_succ]
    refine wpAnyH_take (i := 20) (oi := ⟨some 29, .call { callee := .value (.func 30), args := #[.tmp 28], argTypes := #[24] }, 4, "law.go:34", #[⟨19, .data⟩, ⟨18, .chain⟩, ⟨18, .guard⟩], some (18, true)⟩) (v := undef) rfl (by kernel_rfl) (by kernel_rfl) (by kernel_rfl) (fun _ _ _ h => h) (Or.inr ⟨by rfl, rfl⟩) (by assumption) ?_
    try simp only [Act.put, List.setIfInBounds_toArray, List.set_cons_zero, List.set_cons_succ]
    refine wpAnyH_take (i := 21) (oi := ⟨some 30, .pick (.tmp 27) (.tmp 29) (.const (Value.bool false)), 4, "law.go:34", #[⟨18, .data⟩, ⟨20, .data⟩], none⟩) (v := ?vz20_21) rfl (by kernel_rfl) (by kernel_rfl) (by kernel_rfl) (fun _ _ _ h => h) (Or.inl ⟨by rfl, ?yz20_21⟩) (by assumption) ?rz20_21
    case yz20_21 => (intro w' hSw; (try dsimp only at hSw); go_simp; try with_reducible rfl)
    try simp only [Act.put, List.setIfInBounds_toArray, List.set_cons_zero, List.set_cons_succ]
    refine wpAnyH_take (i := 22) (oi := ⟨some 31, .move (.tmp 30), 4, "law.go:34", #[⟨21, .data⟩, ⟨20, .chain⟩], none⟩) (v := ?vz21_22) rfl (by kernel_rfl) (by kernel_rfl) (by kernel_rfl) (fun _ _ _ h => h) (Or.inl ⟨by rfl, ?yz21_22⟩) (by assumption) ?rz21_22
    case yz21_22 => (intro w' hSw; (try dsimp only at hSw); go_simp; try with_reducible rfl)
    try simp only [Act.put, List.setIfInBounds_toArray, List.set_cons_zero, List.set_cons_succ]
    refine wpAnyH_take (i := 23) (oi := ⟨some 32, .move (.tmp 3), 23, "law.go:34", #[⟨22, .guard⟩], some (22, true)⟩) (v := undef) rfl (by kernel_rfl) (by kernel_rfl) (by kernel_rfl) (fun _ _ _ h => h) (Or.inr ⟨by rfl, rfl⟩) (by assumption) ?_
    try simp only [Act.put, List.setIfInBounds_toArray, List.set_cons_zero, List.set_cons_succ]
    refine wpAnyH_take (i := 24) (oi := ⟨some 33, .call { callee := .value (.func 28), args := #[.tmp 32], argTypes := #[23] }, 4, "law.go:34", #[⟨23, .data⟩, ⟨22, .chain⟩, ⟨22, .guard⟩], some (22, true)⟩) (v := undef) rfl (by kernel_rfl) (by kernel_rfl) (by kernel_rfl) (fun _ _ _ h => h) (Or.inr ⟨by rfl, rfl⟩) (by assumption) ?_
    try simp only [Act.put, List.setIfInBounds_toArray, List.set_cons_zero, List.set_cons_succ]
    refine wpAnyH_take (i := 25) (oi := ⟨some 34, .pick (.tmp 31) (.tmp 33) (.const (Value.bool false)), 4, "law.go:34", #[⟨22, .data⟩, ⟨24, .data⟩], none⟩) (v := ?vz24_25) rfl (by kernel_rfl) (by kernel_rfl) (by kernel_rfl) (fun _ _ _ h => h) (Or.inl ⟨by rfl, ?yz24_25⟩) (by assumption) ?rz24_25
    case yz24_25 => (intro w' hSw; (try dsimp only at hSw); go_simp; try with_reducible rfl)
    try simp only [Act.put, List.setIfInBounds_toArray, List.set_cons_zero, List.set_cons_succ]
    refine wpAnyH_take (i := 26) (oi := ⟨some 35, .move (.tmp 34), 4, "law.go:34", #[⟨25, .data⟩, ⟨24, .chain⟩], none⟩) (v := ?vz25_26) rfl (by kernel_rfl) (by kernel_rfl) (by kernel_rfl) (fun _ _ _ h => h) (Or.inl ⟨by rfl, ?yz25_26⟩) (by assumption) ?rz25_26
    case yz25_26 => (intro w' hSw; (try dsimp only at hSw); go_simp; try with_reducible rfl)
    try simp only [Act.put, List.setIfInBounds_toArray, List.set_cons_zero, List.set_cons_succ]
    refine wpAnyH_take (i := 27) (oi := ⟨some 36, .move (.tmp 0), 23, "law.go:34", #[⟨26, .guard⟩], some (26, true)⟩) (v := undef) rfl (by kernel_rfl) (by kernel_rfl) (by kernel_rfl) (fun _ _ _ h => h) (Or.inr ⟨by rfl, rfl⟩) (by assumption) ?_
    try simp only [Act.put, List.setIfInBounds_toArray, List.set_cons_zero, List.set_cons_succ]
    refine wpAnyH_take (i := 28) (oi := ⟨some 37, .call { callee := .value (.func 29), args := #[.tmp 36], argTypes := #[23] }, 38, "law.go:34", #[⟨27, .data⟩, ⟨26, .chain⟩, ⟨26, .guard⟩], some (26, true)⟩) (v := undef) rfl (by kernel_rfl) (by kernel_rfl) (by kernel_rfl) (fun _ _ _ h => h) (Or.inr ⟨by rfl, rfl⟩) (by assumption) ?_
    try simp only [Act.put, List.setIfInBounds_toArray, List.set_cons_zero, List.set_cons_succ]
    refine wpAnyH_take (i := 29) (oi := ⟨some 38, .binOp .eql 38 (.tmp 37) (.const Value.nilIface) 38, 4, "law.go:34", #[⟨28, .data⟩, ⟨26, .guard⟩], some (26, true)⟩) (v := undef) rfl (by kernel_rfl) (by kernel_rfl) (by kernel_rfl) (fun _ _ _ h => h) (Or.inr ⟨by rfl, rfl⟩) (by assumption) ?_
    try simp only [Act.put, List.setIfInBounds_toArray, List.set_cons_zero, List.set_cons_succ]
    refine wpAnyH_take (i := 30) (oi := ⟨some 39, .pick (.tmp 35) (.tmp 38) (.const (Value.bool false)), 4, "law.go:34", #[⟨26, .data⟩, ⟨29, .data⟩], none⟩) (v := ?vz29_30) rfl (by kernel_rfl) (by kernel_rfl) (by kernel_rfl) (fun _ _ _ h => h) (Or.inl ⟨by rfl, ?yz29_30⟩) (by assumption) ?rz29_30
    case yz29_30 => (intro w' hSw; (try dsimp only at hSw); go_simp; try with_reducible rfl)
    try simp only [Act.put, List.setIfInBounds_toArray, List.set_cons_zero, List.set_cons_succ]
    refine wpAnyH_take (i := 31) (oi := ⟨some 40, .move (.tmp 39), 4, "law.go:34", #[⟨30, .data⟩, ⟨28, .chain⟩], none⟩) (v := ?vz30_31) rfl (by kernel_rfl) (by kernel_rfl) (by kernel_rfl) (fun _ _ _ h => h) (Or.inl ⟨by rfl, ?yz30_31⟩) (by assumption) ?rz30_31
    case yz30_31 => (intro w' hSw; (try dsimp only at hSw); go_simp; try with_reducible rfl)
    try simp only [Act.put, List.setIfInBounds_toArray, List.set_cons_zero, List.set_cons_succ]
    refine wpAnyH_take (i := 32) (oi := ⟨some 41, .fieldAddr 27 (.tmp 5) 0, 0, "law.go:34", #[⟨31, .guard⟩], some (31, true)⟩) (v := undef) rfl (by kernel_rfl) (by kernel_rfl) (by kernel_rfl) (fun _ _ _ h => h) (Or.inr ⟨by rfl, rfl⟩) (by assumption) ?_
    try simp only [Act.put, List.setIfInBounds_toArray, List.set_cons_zero, List.set_cons_succ]
    refine wpAnyH_take (i := 33) (oi := ⟨some 42, .load 23 (.tmp 41), 23, "law.go:34", #[⟨32, .data⟩, ⟨31, .guard⟩], some (31, true)⟩) (v := undef) rfl (by kernel_rfl) (by kernel_rfl) (by kernel_rfl) (fun _ _ _ h => h) (Or.inr ⟨by rfl, rfl⟩) (by assumption) ?_
    try simp only [Act.put, List.setIfInBounds_toArray, List.set_cons_zero, List.set_cons_succ]
    refine wpAnyH_take (i := 34) (oi := ⟨some 43, .call { callee := .value (.func 29), args := #[.tmp 42], argTypes := #[23] }, 38, "law.go:34", #[⟨33, .data⟩, ⟨31, .chain⟩, ⟨31, .guard⟩], some (31, true)⟩) (v := undef) rfl (by kernel_rfl) (by kernel_rfl) (by kernel_rfl) (fun _ _ _ h => h) (Or.inr ⟨by rfl, rfl⟩) (by assumption) ?_
    try simp only [Act.put, List.setIfInBounds_toArray, List.set_cons_zero, List.set_cons_succ]
    refine wpAnyH_take (i := 35) (oi := ⟨some 44, .binOp .eql 38 (.tmp 43) (.const Value.nilIface) 38, 4, "law.go:34", #[⟨34, .data⟩, ⟨31, .guard⟩], some (31, true)⟩) (v := undef) rfl (by kernel_rfl) (by kernel_rfl) (by kernel_rfl) (fun _ _ _ h => h) (Or.inr ⟨by rfl, rfl⟩) (by assumption) ?_
    try simp only [Act.put, List.setIfInBounds_toArray, List.set_cons_zero, List.set_cons_succ]
    refine wpAnyH_take (i := 36) (oi := ⟨some 45, .pick (.tmp 40) (.tmp 44) (.const (Value.bool false)), 4, "law.go:34", #[⟨31, .data⟩, ⟨35, .data⟩], none⟩) (v := ?vz35_36) rfl (by kernel_rfl) (by kernel_rfl) (by kernel_rfl) (fun _ _ _ h => h) (Or.inl ⟨by rfl, ?yz35_36⟩) (by assumption) ?rz35_36
    case yz35_36 => (intro w' hSw; (try dsimp only at hSw); go_simp; try with_reducible rfl)
    try simp only [Act.put, List.setIfInBounds_toArray, List.set_cons_zero, List.set_cons_succ]
    refine wpAnyH_take (i := 37) (oi := ⟨some 46, .move (.tmp 45), 4, "law.go:34", #[⟨36, .data⟩, ⟨34, .chain⟩], none⟩) (v := ?vz36_37) rfl (by kernel_rfl) (by kernel_rfl) (by kernel_rfl) (fun _ _ _ h => h) (Or.inl ⟨by rfl, ?yz36_37⟩) (by assumption) ?rz36_37
    case yz36_37 => (intro w' hSw; (try dsimp only at hSw); go_simp; try with_reducible rfl)
    try simp only [Act.put, List.setIfInBounds_toArray, List.set_cons_zero, List.set_cons_succ]
    refine wpAnyH_take (i := 38) (oi := ⟨some 47, .move (.tmp 2), 24, "law.go:34", #[⟨37, .guard⟩], some (37, true)⟩) (v := undef) rfl (by kernel_rfl) (by kernel_rfl) (by kernel_rfl) (fun _ _ _ h => h) (Or.inr ⟨by rfl, rfl⟩) (by assumption) ?_
    try simp only [Act.put, List.setIfInBounds_toArray, List.set_cons_zero, List.set_cons_succ]
    refine wpAnyH_take (i := 39) (oi := ⟨some 48, .call { callee := .value (.func 31), args := #[.tmp 47], argTypes := #[24] }, 38, "law.go:34", #[⟨38, .data⟩, ⟨37, .chain⟩, ⟨37, .guard⟩], some (37, true)⟩) (v := undef) rfl (by kernel_rfl) (by kernel_rfl) (by kernel_rfl) (fun _ _ _ h => h) (Or.inr ⟨by rfl, rfl⟩) (by assumption) ?_
    try simp only [Act.put, List.setIfInBounds_toArray, List.set_cons_zero, List.set_cons_succ]
    refine wpAnyH_take (i := 40) (oi := ⟨some 49, .binOp .eql 38 (.tmp 48) (.const Value.nilIface) 38, 4, "law.go:34", #[⟨39, .data⟩, ⟨37, .guard⟩], some (37, true)⟩) (v := undef) rfl (by kernel_rfl) (by kernel_rfl) (by kernel_rfl) (fun _ _ _ h => h) (Or.inr ⟨by rfl, rfl⟩) (by assumption) ?_
    try simp only [Act.put, List.setIfInBounds_toArray, List.set_cons_zero, List.set_cons_succ]
    refine wpAnyH_take (i := 41) (oi := ⟨some 50, .pick (.tmp 46) (.tmp 49) (.const (Value.bool false)), 4, "law.go:34", #[⟨37, .data⟩, ⟨40, .data⟩], none⟩) (v := ?vz40_41) rfl (by kernel_rfl) (by kernel_rfl) (by kernel_rfl) (fun _ _ _ h => h) (Or.inl ⟨by rfl, ?yz40_41⟩) (by assumption) ?rz40_41
    case yz40_41 => (intro w' hSw; (try dsimp only at hSw); go_simp; try with_reducible rfl)
    try simp only [Act.put, List.setIfInBounds_toArray, List.set_cons_zero, List.set_cons_succ]
    refine wpAnyH_take (i := 42) (oi := ⟨some 51, .move (.tmp 50), 4, "law.go:34", #[⟨41, .data⟩, ⟨39, .chain⟩], none⟩) (v := ?vz41_42) rfl (by kernel_rfl) (by kernel_rfl) (by kernel_rfl) (fun _ _ _ h => h) (Or.inl ⟨by rfl, ?yz41_42⟩) (by assumption) ?rz41_42
    case yz41_42 => (intro w' hSw; (try dsimp only at hSw); go_simp; try with_reducible rfl)
    try simp only [Act.put, List.setIfInBounds_toArray, List.set_cons_zero, List.set_cons_succ]
    refine wpAnyH_take (i := 43) (oi := ⟨some 52, .move (.tmp 3), 23, "law.go:34", #[⟨42, .guard⟩], some (42, true)⟩) (v := undef) rfl (by kernel_rfl) (by kernel_rfl) (by kernel_rfl) (fun _ _ _ h => h) (Or.inr ⟨by rfl, rfl⟩) (by assumption) ?_
    try simp only [Act.put, List.setIfInBounds_toArray, List.set_cons_zero, List.set_cons_succ]
    refine wpAnyH_take (i := 44) (oi := ⟨some 53, .call { callee := .value (.func 29), args := #[.tmp 52], argTypes := #[23] }, 38, "law.go:34", #[⟨43, .data⟩, ⟨42, .chain⟩, ⟨42, .guard⟩], some (42, true)⟩) (v := undef) rfl (by kernel_rfl) (by kernel_rfl) (by kernel_rfl) (fun _ _ _ h => h) (Or.inr ⟨by rfl, rfl⟩) (by assumption) ?_
    try simp only [Act.put, List.setIfInBounds_toArray, List.set_cons_zero, List.set_cons_succ]
    refine wpAnyH_take (i := 45) (oi := ⟨some 54, .binOp .eql 38 (.tmp 53) (.const Value.nilIface) 38, 4, "law.go:34", #[⟨44, .data⟩, ⟨42, .guard⟩], some (42, true)⟩) (v := undef) rfl (by kernel_rfl) (by kernel_rfl) (by kernel_rfl) (fun _ _ _ h => h) (Or.inr ⟨by rfl, rfl⟩) (by assumption) ?_
    try simp only [Act.put, List.setIfInBounds_toArray, List.set_cons_zero, List.set_cons_succ]
    refine wpAnyH_take (i := 46) (oi := ⟨some 55, .pick (.tmp 51) (.tmp 54) (.const (Value.bool false)), 4, "law.go:34", #[⟨42, .data⟩, ⟨45, .data⟩], none⟩) (v := ?vz45_46) rfl (by kernel_rfl) (by kernel_rfl) (by kernel_rfl) (fun _ _ _ h => h) (Or.inl ⟨by rfl, ?yz45_46⟩) (by assumption) ?rz45_46
    case yz45_46 => (intro w' hSw; (try dsimp only at hSw); go_simp; try with_reducible rfl)
    try simp only [Act.put, List.setIfInBounds_toArray, List.set_cons_zero, List.set_cons_succ]
    refine wpAnyH_take (i := 47) (oi := ⟨some 56, .move (.tmp 55), 4, "law.go:34", #[⟨46, .data⟩, ⟨44, .chain⟩], none⟩) (v := ?vz46_47) rfl (by kernel_rfl) (by kernel_rfl) (by kernel_rfl) (fun _ _ _ h => h) (Or.inl ⟨by rfl, ?yz46_47⟩) (by assumption) ?rz46_47
    case yz46_47 => (intro w' hSw; (try dsimp only at hSw); go_simp; try with_reducible rfl)
    try simp only [Act.put, List.setIfInBounds_toArray, List.set_cons_zero, List.set_cons_succ]
    refine wpAnyH_take (i := 48) (oi := ⟨some 57, .fieldAddr 27 (.tmp 5) 1, 0, "law.go:34", #[⟨47, .guard⟩], some (47, true)⟩) (v := undef) rfl (by kernel_rfl) (by kernel_rfl) (by kernel_rfl) (fun _ _ _ h => h) (Or.inr ⟨by rfl, rfl⟩) (by assumption) ?_
    try simp only [Act.put, List.setIfInBounds_toArray, List.set_cons_zero, List.set_cons_succ]
    refine wpAnyH_take (i := 49) (oi := ⟨some 58, .load 24 (.tmp 57), 24, "law.go:34", #[⟨48, .data⟩, ⟨47, .guard⟩], some (47, true)⟩) (v := undef) rfl (by kernel_rfl) (by kernel_rfl) (by kernel_rfl) (fun _ _ _ h => h) (Or.inr ⟨by rfl, rfl⟩) (by assumption) ?_
    try simp only [Act.put, List.setIfInBounds_toArray, List.set_cons_zero, List.set_cons_succ]
    refine wpAnyH_take (i := 50) (oi := ⟨some 59, .call { callee := .value (.func 31), args := #[.tmp 58], argTypes := #[24] }, 38, "law.go:34", #[⟨49, .data⟩, ⟨47, .chain⟩, ⟨47, .guard⟩], some (47, true)⟩) (v := undef) rfl (by kernel_rfl) (by kernel_rfl) (by kernel_rfl) (fun _ _ _ h => h) (Or.inr ⟨by rfl, rfl⟩) (by assumption) ?_
    try simp only [Act.put, List.setIfInBounds_toArray, List.set_cons_zero, List.set_cons_succ]
    refine wpAnyH_take (i := 51) (oi := ⟨some 60, .binOp .eql 38 (.tmp 59) (.const Value.nilIface) 38, 4, "law.go:34", #[⟨50, .data⟩, ⟨47, .guard⟩], some (47, true)⟩) (v := undef) rfl (by kernel_rfl) (by kernel_rfl) (by kernel_rfl) (fun _ _ _ h => h) (Or.inr ⟨by rfl, rfl⟩) (by assumption) ?_
    try simp only [Act.put, List.setIfInBounds_toArray, List.set_cons_zero, List.set_cons_succ]
    refine wpAnyH_take (i := 52) (oi := ⟨some 61, .pick (.tmp 56) (.tmp 60) (.const (Value.bool false)), 4, "law.go:34", #[⟨47, .data⟩, ⟨51, .data⟩], none⟩) (v := ?vz51_52) rfl (by kernel_rfl) (by kernel_rfl) (by kernel_rfl) (fun _ _ _ h => h) (Or.inl ⟨by rfl, ?yz51_52⟩) (by assumption) ?rz51_52
    case yz51_52 => (intro w' hSw; (try dsimp only at hSw); go_simp; try with_reducible rfl)
    try simp only [Act.put, List.setIfInBounds_toArray, List.set_cons_zero, List.set_cons_succ]
    refine wpAnyH_take (i := 53) (oi := ⟨some 62, .move (.tmp 61), 4, "law.go:34", #[⟨52, .data⟩, ⟨50, .chain⟩], none⟩) (v := ?vz52_53) rfl (by kernel_rfl) (by kernel_rfl) (by kernel_rfl) (fun _ _ _ h => h) (Or.inl ⟨by rfl, ?yz52_53⟩) (by assumption) ?rz52_53
    case yz52_53 => (intro w' hSw; (try dsimp only at hSw); go_simp; try with_reducible rfl)
    try simp only [Act.put, List.setIfInBounds_toArray, List.set_cons_zero, List.set_cons_succ]
    refine wpAnyH_take (i := 54) (oi := ⟨some 63, .fieldAddr 27 (.tmp 5) 1, 0, "law.go:34", #[⟨53, .guard⟩], some (53, true)⟩) (v := undef) rfl (by kernel_rfl) (by kernel_rfl) (by kernel_rfl) (fun _ _ _ h => h) (Or.inr ⟨by rfl, rfl⟩) (by assumption) ?_
    try simp only [Act.put, List.setIfInBounds_toArray, List.set_cons_zero, List.set_cons_succ]
    refine wpAnyH_take (i := 55) (oi := ⟨some 64, .load 24 (.tmp 63), 24, "law.go:34", #[⟨54, .data⟩, ⟨53, .guard⟩], some (53, true)⟩) (v := undef) rfl (by kernel_rfl) (by kernel_rfl) (by kernel_rfl) (fun _ _ _ h => h) (Or.inr ⟨by rfl, rfl⟩) (by assumption) ?_
    try simp only [Act.put, List.setIfInBounds_toArray, List.set_cons_zero, List.set_cons_succ]
    refine wpAnyH_take (i := 57) (oi := ⟨some 66, .fieldAddr 27 (.tmp 5) 2, 0, "law.go:34", #[⟨53, .guard⟩], some (53, true)⟩) (v := undef) rfl (by kernel_rfl) (by kernel_rfl) (by kernel_rfl) (fun _ _ _ h => h) (Or.inr ⟨by rfl, rfl⟩) (by assumption) ?_
    try simp only [Act.put, List.setIfInBounds_toArray, List.set_cons_zero, List.set_cons_succ]
    refine wpAnyH_take (i := 58) (oi := ⟨some 67, .load 25 (.tmp 66), 25, "law.go:34", #[⟨57, .data⟩, ⟨53, .guard⟩], some (53, true)⟩) (v := undef) rfl (by kernel_rfl) (by kernel_rfl) (by kernel_rfl) (fun _ _ _ h => h) (Or.inr ⟨by rfl, rfl⟩) (by assumption) ?_
    try simp only [Act.put, List.setIfInBounds_toArray, List.set_cons_zero, List.set_cons_succ]
    refine wpAnyH_take (i := 56) (oi := ⟨some 65, .call { callee := .value (.func 32), args := #[.tmp 64], argTypes := #[24] }, 25, "law.go:34", #[⟨55, .data⟩, ⟨53, .chain⟩, ⟨53, .guard⟩], some (53, true)⟩) (v := undef) rfl (by kernel_rfl) (by kernel_rfl) (by kernel_rfl) (fun _ _ _ h => h) (Or.inr ⟨by rfl, rfl⟩) (by assumption) ?_
    try simp only [Act.put, List.setIfInBounds_toArray, List.set_cons_zero, List.set_cons_succ]
    refine wpAnyH_take (i := 59) (oi := ⟨some 68, .call { callee := .value (.func 14), args := #[.tmp 65, .tmp 67], argTypes := #[25, 25] }, 4, "law.go:34", #[⟨56, .data⟩, ⟨58, .data⟩, ⟨56, .chain⟩, ⟨53, .guard⟩], some (53, true)⟩) (v := undef) rfl (by kernel_rfl) (by kernel_rfl) (by kernel_rfl) (fun _ _ _ h => h) (Or.inr ⟨by rfl, rfl⟩) (by assumption) ?_
    try simp only [Act.put, List.setIfInBounds_toArray, List.set_cons_zero, List.set_cons_succ]
    refine wpAnyH_take (i := 60) (oi := ⟨some 69, .pick (.tmp 62) (.tmp 68) (.const (Value.bool false)), 4, "law.go:34", #[⟨53, .data⟩, ⟨59, .data⟩], none⟩) (v := ?vz59_60) rfl (by kernel_rfl) (by kernel_rfl) (by kernel_rfl) (fun _ _ _ h => h) (Or.inl ⟨by rfl, ?yz59_60⟩) (by assumption) ?rz59_60
    case yz59_60 => (intro w' hSw; (try dsimp only at hSw); go_simp; try with_reducible rfl)
    try simp only [Act.put, List.setIfInBounds_toArray, List.set_cons_zero, List.set_cons_succ]
    refine wpAnyH_take (i := 61) (oi := ⟨some 8, .assign (.tmp 69), 4, "law.go:34", #[⟨60, .data⟩, ⟨59, .chain⟩, ⟨0, .phase⟩, ⟨1, .phase⟩, ⟨2, .phase⟩, ⟨3, .phase⟩, ⟨4, .phase⟩, ⟨5, .phase⟩, ⟨6, .phase⟩, ⟨7, .phase⟩, ⟨8, .phase⟩, ⟨9, .phase⟩, ⟨10, .phase⟩, ⟨11, .phase⟩, ⟨12, .phase⟩, ⟨13, .phase⟩, ⟨14, .phase⟩, ⟨15, .phase⟩, ⟨16, .phase⟩, ⟨17, .phase⟩, ⟨18, .phase⟩, ⟨19, .phase⟩, ⟨20, .phase⟩, ⟨21, .phase⟩, ⟨22, .phase⟩, ⟨23, .phase⟩, ⟨24, .phase⟩, ⟨25, .phase⟩, ⟨26, .phase⟩, ⟨27, .phase⟩, ⟨28, .phase⟩, ⟨29, .phase⟩, ⟨30, .phase⟩, ⟨31, .phase⟩, ⟨32, .phase⟩, ⟨33, .phase⟩, ⟨34, .phase⟩, ⟨35, .phase⟩, ⟨36, .phase⟩, ⟨37, .phase⟩, ⟨38, .phase⟩, ⟨39, .phase⟩, ⟨40, .phase⟩, ⟨41, .phase⟩, ⟨42, .phase⟩, ⟨43, .phase⟩, ⟨44, .phase⟩, ⟨45, .phase⟩, ⟨46, .phase⟩, ⟨47, .phase⟩, ⟨48, .phase⟩, ⟨49, .phase⟩, ⟨50, .phase⟩, ⟨51, .phase⟩, ⟨52, .phase⟩, ⟨53, .phase⟩, ⟨54, .phase⟩, ⟨55, .phase⟩, ⟨56, .phase⟩, ⟨57, .phase⟩, ⟨58, .phase⟩, ⟨59, .phase⟩, ⟨60, .phase⟩], none⟩) (v := ?vz60_61) rfl (by kernel_rfl) (by kernel_rfl) (by kernel_rfl) (fun _ _ _ h => h) (Or.inl ⟨by rfl, ?yz60_61⟩) (by assumption) ?rz60_61
    case yz60_61 => (intro w' hSw; (try dsimp only at hSw); go_simp; try with_reducible rfl)
    try simp only [Act.put, List.setIfInBounds_toArray, List.set_cons_zero, List.set_cons_succ]
    refine wpAnyH_done (by kernel_rfl) ?_ _
    go_wp2_with fail
    go_ret
    exact ⟨false, rfl, (fun h => by cases h), HB0.out.trans (Below.mono (by first | exact B1x.out | exact B1x.out.drew | exact below_drewN B1x.out _) HB0.out.size)⟩
  | true =>
    have H0 := Lib.hid (hb rfl)
    clear hb
    go_wp2_with fail
    refine hK.out _ _ (SS.out _ B1x.out) (fun hHeld1 => ?_)
    clear hK K hHeld
    try simp only [Act.put, List.setIfInBounds_toArray, List.set_cons_zero, List.set_cons_succ]
    refine wpAnyH_take (i := 2) (oi := ⟨some 11, .move (.tmp 10), 4, "law.go:34", #[⟨1, .data⟩, ⟨1, .chain⟩], none⟩) (v := ?vz61_2) rfl (by kernel_rfl) (by kernel_rfl) (by kernel_rfl) (fun _ _ _ h => h) (Or.inl ⟨by rfl, ?yz61_2⟩) (by assumption) ?rz61_2
    case yz61_2 => (intro w' hSw; (try dsimp only at hSw); go_simp; try with_reducible rfl)
    try simp only [Act.put, List.setIfInBounds_toArray, List.set_cons_zero, List.set_cons_succ]
    refine wpAnyH_take (i := 3) (oi := ⟨some 12, .fieldAddr 27 (.tmp 5) 0, 0, "law.go:34", #[⟨2, .guard⟩], some (2, true)⟩) (v := ?vz62_3) rfl (by kernel_rfl) (by kernel_rfl) (by kernel_rfl) (fun _ _ _ h => h) (Or.inl ⟨by rfl, ?yz62_3⟩) (by assumption) ?rz62_3
    case yz62_3 => (intro w' hSw; (try dsimp only at hSw); go_simp; try with_reducible rfl)
    try simp only [Act.put, List.setIfInBounds_toArray, List.set_cons_zero, List.set_cons_succ]
    refine wpAnyH_take (i := 4) (oi := ⟨some 13, .load 23 (.tmp 12), 23, "law.go:34", #[⟨3, .data⟩, ⟨2, .guard⟩], some (2, true)⟩) (v := ?vz63_4) rfl (by kernel_rfl) (by kernel_rfl) (by kernel_rfl) (fun _ _ _ h => h) (Or.inl ⟨by rfl, ?yz63_4⟩) (by assumption) ?rz63_4
    case yz63_4 => (intro w' hSw; (try dsimp only at hSw); go_simp; try with_reducible rfl)
    try simp only [Act.put, List.setIfInBounds_toArray, List.set_cons_zero, List.set_cons_succ]
    refine wpAnyH_ready (rs := [5]) (by kernel_rfl) (by simp) ?_
    refine AllReadyH.cons (o := ⟨some 14, .call { callee := .value (.func 28), args := #[.tmp 13], argTypes := #[23] }, 4, "law.go:34", #[⟨4, .data⟩, ⟨2, .chain⟩, ⟨2, .guard⟩], some (2, true)⟩) rfl (fun K hK => ?_) AllReadyH.nil
    go_simp
    go_at_call 28
    refine (FT.out _ (by first | exact B1x.out | exact B1x.out.drew | exact below_drewN B1x.out _)).mono ?_
    rintro e x2 ⟨b, rfl, hb, bb⟩
    have B2x := Lib.hid bb
    clear bb
    cases b with
    | false =>
      clear hb
      go_wp2_with fail
      refine hK.out _ _ (SS.out _ B2x.out) (fun hHeld2 => ?_)
      clear hK K hHeld1
      try simp only [Act.put, List.setIfInBounds_toArray, List.set_cons_zero, List.set_cons_succ]
      refine wpAnyH_take (i := 6) (oi := ⟨some 15, .pick (.tmp 11) (.tmp 14) (.const (Value.bool false)), 4, "law.go:34", #[⟨2, .data⟩, ⟨5, .data⟩], none⟩) (v := ?vz64_6) rfl (by kernel_rfl) (by kernel_rfl) (by kernel_rfl) (fun _ _ _ h => h) (Or.inl ⟨by rfl, ?yz64_6⟩) (by assumption) ?rz64_6
      case yz64_6 => (intro w' hSw; (try dsimp only at hSw); go_simp; try with_reducible rfl)
      try simp only [Act.put, List.setIfInBounds_toArray, List.set_cons_zero, List.set_cons_succ]
      refine wpAnyH_take (i := 7) (oi := ⟨some 16, .move (.tmp 15), 4, "law.go:34", #[⟨6, .data⟩, ⟨5, .chain⟩], none⟩) (v := ?vz65_7) rfl (by kernel_rfl) (by kernel_rfl) (by kernel_rfl) (fun _ _ _ h => h) (Or.inl ⟨by rfl, ?yz65_7⟩) (by assumption) ?rz65_7
      case yz65_7 => (intro w' hSw; (try dsimp only at hSw); go_simp; try with_reducible rfl)
      try simp only [Act.put, List.setIfInBounds_toArray, List.set_cons_zero, List.set_cons_succ]
      refine wpAnyH_take (i := 8) (oi := ⟨some 17, .fieldAddr 27 (.tmp 5) 1, 0, "law.go:34", #[⟨7, .guard⟩], some (7, true)⟩) (v := undef) rfl (by kernel_rfl) (by kernel_rfl) (by kernel_rfl) (fun _ _ _ h => h) (Or.inr ⟨by rfl, rfl⟩) (by assumption) ?_
      try simp only [Act.put, List.setIfInBounds_toArray, List.set_cons_zero, List.set_cons_succ]
      refine wpAnyH_take (i := 9) (oi := ⟨some 18, .load 24 (.tmp 17), 24, "law.go:34", #[⟨8, .data⟩, ⟨7, .guard⟩], some (7, true)⟩) (v := undef) rfl (by kernel_rfl) (by kernel_rfl) (by kernel_rfl) (fun _ _ _ h => h) (Or.inr ⟨by rfl, rfl⟩) (by assumption) ?_
      try simp only [Act.put, List.setIfInBounds_toArray, List.set_cons_zero, List.set_cons_succ]
      refine wpAnyH_take (i := 10) (oi := ⟨some 19, .call { callee := .value (.func 30), args := #[.tmp 18], argTypes := #[24] }, 4, "law.go:34", #[⟨9, .data⟩, ⟨7, .chain⟩, ⟨7, .guard⟩], some (7, true)⟩) (v := undef) rfl (by kernel_rfl) (by kernel_rfl) (by kernel_rfl) (fun _ _ _ h => h) (Or.inr ⟨by rfl, rfl⟩) (by assumption) ?_
      try simp only [Act.put, List.setIfInBounds_toArray, List.set_cons_zero, List.set_cons_succ]
      refine wpAnyH_take (i := 11) (oi := ⟨some 20, .pick (.tmp 16) (.tmp 19) (.const (Value.bool false)), 4, "law.go:34", #[⟨7, .data⟩, ⟨10, .data⟩], none⟩) (v := ?vz69_11) rfl (by kernel_rfl) (by kernel_rfl) (by kernel_rfl) (fun _ _ _ h => h) (Or.inl ⟨by rfl, ?yz69_11⟩) (by assumption) ?rz69_11
      case yz69_11 => (intro w' hSw; (try dsimp only at hSw); go_simp; try with_reducible rfl)
      try simp only [Act.put, List.setIfInBounds_toArray, List.set_cons_zero, List.set_cons_succ]
      refine wpAnyH_take (i := 12) (oi := ⟨some 21, .move (.tmp 20), 4, "law.go:34", #[⟨11, .data⟩, ⟨10, .chain⟩], none⟩) (v := ?vz70_12) rfl (by kernel_rfl) (by kernel_rfl) (by kernel_rfl) (fun _ _ _ h => h) (Or.inl ⟨by rfl, ?yz70_12⟩) (by assumption) ?rz70_12
      case yz70_12 => (intro w' hSw; (try dsimp only at hSw); go_simp; try with_reducible rfl)
      try simp only [Act.put, List.setIfInBounds_toArray, List.set_cons_zero, List.set_cons_succ]
      refine wpAnyH_take (i := 13) (oi := ⟨some 22, .fieldAddr 27 (.tmp 5) 2, 0, "law.go:34", #[⟨12, .guard⟩], some (12, true)⟩) (v := undef) rfl (by kernel_rfl) (by kernel_rfl) (by kernel_rfl) (fun _ _ _ h => h) (Or.inr ⟨by rfl, rfl⟩) (by assumption) ?_
      try simp only [Act.put, List.setIfInBounds_toArray, List.set_cons_zero, List.set_cons_succ]
      refine wpAnyH_take (i := 14) (oi := ⟨some 23, .load 25 (.tmp 22), 25, "law.go:34", #[⟨13, .data⟩, ⟨12, .guard⟩], some (12, true)⟩) (v := undef) rfl (by kernel_rfl) (by kernel_rfl) (by kernel_rfl) (fun _ _ _ h => h) (Or.inr ⟨by rfl, rfl⟩) (by assumption) ?_
      try simp only [Act.put, List.setIfInBounds_toArray, List.set_cons_zero, List.set_cons_succ]
      refine wpAnyH_take (i := 15) (oi := ⟨some 24, .call { callee := .builtin .len, args := #[.tmp 23], argTypes := #[25] }, 3, "law.go:34", #[⟨14, .data⟩, ⟨12, .guard⟩], some (12, true)⟩) (v := undef) rfl (by kernel_rfl) (by kernel_rfl) (by kernel_rfl) (fun _ _ _ h => h) (Or.inr ⟨by rfl, rfl⟩) (by assumption) ?_
      try simp only [Act.put, List.setIfInBounds_toArray, List.set_cons_zero, List.set_cons_succ]
      refine wpAnyH_take (i := 16) (oi := ⟨some 25, .binOp .leq 3 (.tmp 24) (.const (Value.int IntKind.i64 40)) 3, 4, "law.go:34", #[⟨15, .data⟩, ⟨12, .guard⟩], some (12, true)⟩) (v := undef) rfl (by kernel_rfl) (by kernel_rfl) (by kernel_rfl) (fun _ _ _ h => h) (Or.inr ⟨by rfl, rfl⟩) (by assumption) ?_
      try simp only [Act.put, List.setIfInBounds_toArray, List.set_cons_zero, List.set_cons_succ]
      refine wpAnyH_take (i := 17) (oi := ⟨some 26, .pick (.tmp 21) (.tmp 25) (.const (Value.bool false)), 4, "law.go:34", #[⟨12, .data⟩, ⟨16, .data⟩], none⟩) (v := ?vz75_17) rfl (by kernel_rfl) (by kernel_rfl) (by kernel_rfl) (fun _ _ _ h => h) (Or.inl ⟨by rfl, ?yz75_17⟩) (by assumption) ?rz75_17
      case yz75_17 => (intro w' hSw; (try dsimp only at hSw); go_simp; try with_reducible rfl)
      try simp only [Act.put, List.setIfInBounds_toArray, List.set_cons_zero, List.set_cons_succ]
      refine wpAnyH_take (i := 18) (oi := ⟨some 27, .move (.tmp 26), 4, "law.go:34", #[⟨17, .data⟩, ⟨12, .chain⟩], none⟩) (v := ?vz76_18) rfl (by kernel_rfl) (by kernel_rfl) (by kernel_rfl) (fun _ _ _ h => h) (Or.inl ⟨by rfl, ?yz76_18⟩) (by assumption) ?rz76_18
      case yz76_18 => (intro w' hSw; (try dsimp only at hSw); go_simp; try with_reducible rfl)
      try simp only [Act.put, List.setIfInBounds_toArray, List.set_cons_zero, List.set_cons_succ]
      refine wpAnyH_take (i := 19) (oi := ⟨some 28, .move (.tmp 2), 24, "law.go:34", #[⟨18, .guard⟩], some (18, true)⟩) (v := undef) rfl (by kernel_rfl) (by kernel_rfl) (by kernel_rfl) (fun _ _ _ h => h) (Or.inr ⟨by rfl, rfl⟩) (by assumption) ?_
      try simp only [Act.put, List.setIfInBounds_toArray, List.set_cons_zero, List.set_cons_succ]
      refine wpAnyH_take (i := 20) (oi := ⟨some 29, .call { callee := .value (.func 30), args := #[.tmp 28], argTypes := #[24] }, 4, "law.go:34", #[⟨19, .data⟩, ⟨18, .chain⟩, ⟨18, .guard⟩], some (18, true)⟩) (v := undef) rfl (by kernel_rfl) (by kernel_rfl) (by kernel_rfl) (fun _ _ _ h => h) (Or.inr ⟨by rfl, rfl⟩) (by assumption) ?_
      try simp only [Act.put, List.setIfInBounds_toArray, List.set_cons_zero, List.set_cons_succ]
      refine wpAnyH_take (i := 21) (oi := ⟨some 30, .pick (.tmp 27) (.tmp 29) (.const (Value.bool false)), 4, "law.go:34", #[⟨18, .data⟩, ⟨20, .data⟩], none⟩) (v := ?vz79_21) rfl (by kernel_rfl) (by kernel_rfl) (by kernel_rfl) (fun _ _ _ h => h) (Or.inl ⟨by rfl, ?yz79_21⟩) (by assumption) ?rz79_21
      case yz79_21 => (intro w' hSw; (try dsimp only at hSw); go_simp; try with_reducible rfl)
      try simp only [Act.put, List.setIfInBounds_toArray, List.set_cons_zero, List.set_cons_succ]
      refine wpAnyH_take (i := 22) (oi := ⟨some 31, .move (.tmp 30), 4, "law.go:34", #[⟨21, .data⟩, ⟨20, .chain⟩], none⟩) (v := ?vz80_22) rfl (by kernel_rfl) (by kernel_rfl) (by kernel_rfl) (fun _ _ _ h => h) (Or.inl ⟨by rfl, ?yz80_22⟩) (by assumption) ?rz80_22
      case yz80_22 => (intro w' hSw; (try dsimp only at hSw); go_simp; try with_reducible rfl)
      try simp only [Act.put, List.setIfInBounds_toArray, List.set_cons_zero, List.set_cons_succ]
      refine wpAnyH_take (i := 23) (oi := ⟨some 32, .move (.tmp 3), 23, "law.go:34", #[⟨22, .guard⟩], some (22, true)⟩) (v := undef) rfl (by kernel_rfl) (by kernel_rfl) (by kernel_rfl) (fun _ _ _ h => h) (Or.inr ⟨by rfl, rfl⟩) (by assumption) ?_
      try simp only [Act.put, List.setIfInBounds_toArray, List.set_cons_zero, List.set_cons_succ]
      refine wpAnyH_take (i := 24) (oi := ⟨some 33, .call { callee := .value (.func 28), args := #[.tmp 32], argTypes := #[23] }, 4, "law.go:34", #[⟨23, .data⟩, ⟨22, .chain⟩, ⟨22, .guard⟩], some (22, true)⟩) (v := undef) rfl (by kernel_rfl) (by kernel_rfl) (by kernel_rfl) (fun _ _ _ h => h) (Or.inr ⟨by rfl, rfl⟩) (by assumption) ?_
      try simp only [Act.put, List.setIfInBounds_toArray, List.set_cons_zero, List.set_cons_succ]
      refine wpAnyH_take (i := 25) (oi := ⟨some 34, .pick (.tmp 31) (.tmp 33) (.const (Value.bool false)), 4, "law.go:34", #[⟨22, .data⟩, ⟨24, .data⟩], none⟩) (v := ?vz83_25) rfl (by kernel_rfl) (by kernel_rfl) (by kernel_rfl) (fun _ _ _ h => h) (Or.inl ⟨by rfl, ?yz83_25⟩) (by assumption) ?rz83_25
      case yz83_25 => (intro w' hSw; (try dsimp only at hSw); go_simp; try with_reducible rfl)
      try simp only [Act.put, List.setIfInBounds_toArray, List.set_cons_zero, List.set_cons_succ]
      refine wpAnyH_take (i := 26) (oi := ⟨some 35, .move (.tmp 34), 4, "law.go:34", #[⟨25, .data⟩, ⟨24, .chain⟩], none⟩) (v := ?vz84_26) rfl (by kernel_rfl) (by kernel_rfl) (by kernel_rfl) (fun _ _ _ h => h) (Or.inl ⟨by rfl, ?yz84_26⟩) (by assumption) ?rz84_26
      case yz84_26 => (intro w' hSw; (try dsimp only at hSw); go_simp; try with_reducible rfl)
      try simp only [Act.put, List.setIfInBounds_toArray, List.set_cons_zero, List.set_cons_succ]
      refine wpAnyH_take (i := 27) (oi := ⟨some 36, .move (.tmp 0), 23, "law.go:34", #[⟨26, .guard⟩], some (26, true)⟩) (v := undef) rfl (by kernel_rfl) (by kernel_rfl) (by kernel_rfl) (fun _ _ _ h => h) (Or.inr ⟨by rfl, rfl⟩) (by assumption) ?_
      try simp only [Act.put, List.setIfInBounds_toArray, List.set_cons_zero, List.set_cons_succ]
      refine wpAnyH_take (i := 28) (oi := ⟨some 37, .call { callee := .value (.func 29), args := #[.tmp 36], argTypes := #[23] }, 38, "law.go:34", #[⟨27, .data⟩, ⟨26, .chain⟩, ⟨26, .guard⟩], some (26, true)⟩) (v := undef) rfl (by kernel_rfl) (by kernel_rfl) (by kernel_rfl) (fun _ _ _ h => h) (Or.inr ⟨by rfl, rfl⟩) (by assumption) ?_
      try simp only [Act.put, List.setIfInBounds_toArray, List.set_cons_zero, List.set_cons_succ]
      refine wpAnyH_take (i := 29) (oi := ⟨some 38, .binOp .eql 38 (.tmp 37) (.const Value.nilIface) 38, 4, "law.go:34", #[⟨28, .data⟩, ⟨26, .guard⟩], some (26, true)⟩) (v := undef) rfl (by kernel_rfl) (by kernel_rfl) (by kernel_rfl) (fun _ _ _ h => h) (Or.inr ⟨by rfl, rfl⟩) (by assumption) ?_
      try simp only [Act.put, List.setIfInBounds_toArray, List.set_cons_zero, List.set_cons_succ]
      refine wpAnyH_take (i := 30) (oi := ⟨some 39, .pick (.tmp 35) (.tmp 38) (.const (Value.bool false)), 4, "law.go:34", #[⟨26, .data⟩, ⟨29, .data⟩], none⟩) (v := ?vz88_30) rfl (by kernel_rfl) (by kernel_rfl) (by kernel_rfl) (fun _ _ _ h => h) (Or.inl ⟨by rfl, ?yz88_30⟩) (by assumption) ?rz88_30
      case yz88_30 => (intro w' hSw; (try dsimp only at hSw); go_simp; try with_reducible rfl)
      try simp only [Act.put, List.setIfInBounds_toArray, List.set_cons_zero, List.set_cons_succ]
      refine wpAnyH_take (i := 31) (oi := ⟨some 40, .move (.tmp 39), 4, "law.go:34", #[⟨30, .data⟩, ⟨28, .chain⟩], none⟩) (v := ?vz89_31) rfl (by kernel_rfl) (by kernel_rfl) (by kernel_rfl) (fun _ _ _ h => h) (Or.inl ⟨by rfl, ?yz89_31⟩) (by assumption) ?rz89_31
      case yz89_31 => (intro w' hSw; (try dsimp only at hSw); go_simp; try with_reducible rfl)
      try simp only [Act.put, List.setIfInBounds_toArray, List.set_cons_zero, List.set_cons_succ]
      refine wpAnyH_take (i := 32) (oi := ⟨some 41, .fieldAddr 27 (.tmp 5) 0, 0, "law.go:34", #[⟨31, .guard⟩], some (31, true)⟩) (v := undef) rfl (by kernel_rfl) (by kernel_rfl) (by kernel_rfl) (fun _ _ _ h => h) (Or.inr ⟨by rfl, rfl⟩) (by assumption) ?_
      try simp only [Act.put, List.setIfInBounds_toArray, List.set_cons_zero, List.set_cons_succ]
      refine wpAnyH_take (i := 33) (oi := ⟨some 42, .load 23 (.tmp 41), 23, "law.go:34", #[⟨32, .data⟩, ⟨31, .guard⟩], some (31, true)⟩) (v := undef) rfl (by kernel_rfl) (by kernel_rfl) (by kernel_rfl) (fun _ _ _ h => h) (Or.inr ⟨by rfl, rfl⟩) (by assumption) ?_
      try simp only [Act.put, List.setIfInBounds_toArray, List.set_cons_zero, List.set_cons_succ]
      refine wpAnyH_take (i := 34) (oi := ⟨some 43, .call { callee := .value (.func 29), args := #[.tmp 42], argTypes := #[23] }, 38, "law.go:34", #[⟨33, .data⟩, ⟨31, .chain⟩, ⟨31, .guard⟩], some (31, true)⟩) (v := undef) rfl (by kernel_rfl) (by kernel_rfl) (by kernel_rfl) (fun _ _ _ h => h) (Or.inr ⟨by rfl, rfl⟩) (by assumption) ?_
      try simp only [Act.put, List.setIfInBounds_toArray, List.set_cons_zero, List.set_cons_succ]
      refine wpAnyH_take (i := 35) (oi := ⟨some 44, .binOp .eql 38 (.tmp 43) (.const Value.nilIface) 38, 4, "law.go:34", #[⟨34, .data⟩, ⟨31, .guard⟩], some (31, true)⟩) (v := undef) rfl (by kernel_rfl) (by kernel_rfl) (by kernel_rfl) (fun _ _ _ h => h) (Or.inr ⟨by rfl, rfl⟩) (by assumption) ?_
      try simp only [Act.put, List.setIfInBounds_toArray, List.set_cons_zero, List.set_cons_succ]
      refine wpAnyH_take (i := 36) (oi := ⟨some 45, .pick (.tmp 40) (.tmp 44) (.const (Value.bool false)), 4, "law.go:34", #[⟨31, .data⟩, ⟨35, .data⟩], none⟩) (v := ?vz94_36) rfl (by kernel_rfl) (by kernel_rfl) (by kernel_rfl) (fun _ _ _ h => h) (Or.inl ⟨by rfl, ?yz94_36⟩) (by assumption) ?rz94_36
      case yz94_36 => (intro w' hSw; (try dsimp only at hSw); go_simp; try with_reducible rfl)
      try simp only [Act.put, List.setIfInBounds_toArray, List.set_cons_zero, List.set_cons_succ]
      refine wpAnyH_take (i := 37) (oi := ⟨some 46, .move (.tmp 45), 4, "law.go:34", #[⟨36, .data⟩, ⟨34, .chain⟩], none⟩) (v := ?vz95_37) rfl (by kernel_rfl) (by kernel_rfl) (by kernel_rfl) (fun _ _ _ h => h) (Or.inl ⟨by rfl, ?yz95_37⟩) (by assumption) ?rz95_37
      case yz95_37 => (intro w' hSw; (try dsimp only at hSw); go_simp; try with_reducible rfl)
      try simp only [Act.put, List.setIfInBounds_toArray, List.set_cons_zero, List.set_cons_succ]
      refine wpAnyH_take (i := 38) (oi := ⟨some 47, .move (.tmp 2), 24, "law.go:34", #[⟨37, .guard⟩], some (37, true)⟩) (v := undef) rfl (by kernel_rfl) (by kernel_rfl) (by kernel_rfl) (fun _ _ _ h => h) (Or.inr ⟨by rfl, rfl⟩) (by assumption) ?_
      try simp only [Act.put, List.setIfInBounds_toArray, List.set_cons_zero, List.set_cons_succ]
      refine wpAnyH_take (i := 39) (oi := ⟨some 48, .call { callee := .value (.func 31), args := #[.tmp 47], argTypes := #[24] }, 38, "law.go:34", #[⟨38, .data⟩, ⟨37, .chain⟩, ⟨37, .guard⟩], some (37, true)⟩) (v := undef) rfl (by kernel_rfl) (by kernel_rfl) (by kernel_rfl) (fun _ _ _ h => h) (Or.inr ⟨by rfl, rfl⟩) (by assumption) ?_
      try simp only [Act.put, List.setIfInBounds_toArray, List.set_cons_zero, List.set_cons_succ]
      refine wpAnyH_take (i := 40) (oi := ⟨some 49, .binOp .eql 38 (.tmp 48) (.const Value.nilIface) 38, 4, "law.go:34", #[⟨39, .data⟩, ⟨37, .guard⟩], some (37, true)⟩) (v := undef) rfl (by kernel_rfl) (by kernel_rfl) (by kernel_rfl) (fun _ _ _ h => h) (Or.inr ⟨by rfl, rfl⟩) (by assumption) ?_
      try simp only [Act.put, List.setIfInBounds_toArray, List.set_cons_zero, List.set_cons_succ]
      refine wpAnyH_take (i := 41) (oi := ⟨some 50, .pick (.tmp 46) (.tmp 49) (.const (Value.bool false)), 4, "law.go:34", #[⟨37, .data⟩, ⟨40, .data⟩], none⟩) (v := ?vz99_41) rfl (by kernel_rfl) (by kernel_rfl) (by kernel_rfl) (fun _ _ _ h => h) (Or.inl ⟨by rfl, ?yz99_41⟩) (by assumption) ?rz99_41
      case yz99_41 => (intro w' hSw; (try dsimp only at hSw); go_simp; try with_reducible rfl)
      try simp only [Act.put, List.setIfInBounds_toArray, List.set_cons_zero, List.set_cons_succ]
      refine wpAnyH_take (i := 42) (oi := ⟨some 51, .move (.tmp 50), 4, "law.go:34", #[⟨41, .data⟩, ⟨39, .chain⟩], none⟩) (v := ?vz100_42) rfl (by kernel_rfl) (by kernel_rfl) (by kernel_rfl) (fun _ _ _ h => h) (Or.inl ⟨by rfl, ?yz100_42⟩) (by assumption) ?rz100_42
      case yz100_42 => (intro w' hSw; (try dsimp only at hSw); go_simp; try with_reducible rfl)
      try simp only [Act.put, List.setIfInBounds_toArray, List.set_cons_zero, List.set_cons_succ]
      refine wpAnyH_take (i := 43) (oi := ⟨some 52, .move (.tmp 3), 23, "law.go:34", #[⟨42, .guard⟩], some (42, true)⟩) (v := undef) rfl (by kernel_rfl) (by kernel_rfl) (by kernel_rfl) (fun _ _ _ h => h) (Or.inr ⟨by rfl, rfl⟩) (by assumption) ?_
      try simp only [Act.put, List.setIfInBounds_toArray, List.set_cons_zero, List.set_cons_succ]
      refine wpAnyH_take (i := 44) (oi := ⟨some 53, .call { callee := .value (.func 29), args := #[.tmp 52], argTypes := #[23] }, 38, "law.go:34", #[⟨43, .data⟩, ⟨42, .chain⟩, ⟨42, .guard⟩], some (42, true)⟩) (v := undef) rfl (by kernel_rfl) (by kernel_rfl) (by kernel_rfl) (fun _ _ _ h => h) (Or.inr ⟨by rfl, rfl⟩) (by assumption) ?_
      try simp only [Act.put, List.setIfInBounds_toArray, List.set_cons_zero, List.set_cons_succ]
      refine wpAnyH_take (i := 45) (oi := ⟨some 54, .binOp .eql 38 (.tmp 53) (.const Value.nilIface) 38, 4, "law.go:34", #[⟨44, .data⟩, ⟨42, .guard⟩], some (42, true)⟩) (v := undef) rfl (by kernel_rfl) (by kernel_rfl) (by kernel_rfl) (fun _ _ _ h => h) (Or.inr ⟨by rfl, rfl⟩) (by assumption) ?_
      try simp only [Act.put, List.setIfInBounds_toArray, List.set_cons_zero, List.set_cons_succ]
      refine wpAnyH_take (i := 46) (oi := ⟨some 55, .pick (.tmp 51) (.tmp 54) (.const (Value.bool false)), 4, "law.go:34", #[⟨42, .data⟩, ⟨45, .data⟩], none⟩) (v := ?vz104_46) rfl (by kernel_rfl) (by kernel_rfl) (by kernel_rfl) (fun _ _ _ h => h) (Or.inl ⟨by rfl, ?yz104_46⟩) (by assumption) ?rz104_46
      case yz104_46 => (intro w' hSw; (try dsimp only at hSw); go_simp; try with_reducible rfl)
      try simp only [Act.put, List.setIfInBounds_toArray, List.set_cons_zero, List.set_cons_succ]
      refine wpAnyH_take (i := 47) (oi := ⟨some 56, .move (.tmp 55), 4, "law.go:34", #[⟨46, .data⟩, ⟨44, .chain⟩], none⟩) (v := ?vz105_47) rfl (by kernel_rfl) (by kernel_rfl) (by kernel_rfl) (fun _ _ _ h => h) (Or.inl ⟨by rfl, ?yz105_47⟩) (by assumption) ?rz105_47
      case yz105_47 => (intro w' hSw; (try dsimp only at hSw); go_simp; try with_reducible rfl)
      try simp only [Act.put, List.setIfInBounds_toArray, List.set_cons_zero, List.set_cons_succ]
      refine wpAnyH_take (i := 48) (oi := ⟨some 57, .fieldAddr 27 (.tmp 5) 1, 0, "law.go:34", #[⟨47, .guard⟩], some (47, true)⟩) (v := undef) rfl (by kernel_rfl) (by kernel_rfl) (by kernel_rfl) (fun _ _ _ h => h) (Or.inr ⟨by rfl, rfl⟩) (by assumption) ?_
      try simp only [Act.put, List.setIfInBounds_toArray, List.set_cons_zero, List.set_cons_succ]
      refine wpAnyH_take (i := 49) (oi := ⟨some 58, .load 24 (.tmp 57), 24, "law.go:34", #[⟨48, .data⟩, ⟨47, .guard⟩], some (47, true)⟩) (v := undef) rfl (by kernel_rfl) (by kernel_rfl) (by kernel_rfl) (fun _ _ _ h => h) (Or.inr ⟨by rfl, rfl⟩) (by assumption) ?_
      try simp only [Act.put, List.setIfInBounds_toArray, List.set_cons_zero, List.set_cons_succ]
      refine wpAnyH_take (i := 50) (oi := ⟨some 59, .call { callee := .value (.func 31), args := #[.tmp 58], argTypes := #[24] }, 38, "law.go:34", #[⟨49, .data⟩, ⟨47, .chain⟩, ⟨47, .guard⟩], some (47, true)⟩) (v := undef) rfl (by kernel_rfl) (by kernel_rfl) (by kernel_rfl) (fun _ _ _ h => h) (Or.inr ⟨by rfl, rfl⟩) (by assumption) ?_
      try simp only [Act.put, List.setIfInBounds_toArray, List.set_cons_zero, List.set_cons_succ]
      refine wpAnyH_take (i := 51) (oi := ⟨some 60, .binOp .eql 38 (.tmp 59) (.const Value.nilIface) 38, 4, "law.go:34", #[⟨50, .data⟩, ⟨47, .guard⟩], some (47, true)⟩) (v := undef) rfl (by kernel_rfl) (by kernel_rfl) (by kernel_rfl) (fun _ _ _ h => h) (Or.inr ⟨by rfl, rfl⟩) (by assumption) ?_
      try simp only [Act.put, List.setIfInBounds_toArray, List.set_cons_zero, List.set_cons_succ]
      refine wpAnyH_take (i := 52) (oi := ⟨some 61, .pick (.tmp 56) (.tmp 60) (.const (Value.bool false)), 4, "law.go:34", #[⟨47, .data⟩, ⟨51, .data⟩], none⟩) (v := ?vz110_52) rfl (by kernel_rfl) (by kernel_rfl) (by kernel_rfl) (fun _ _ _ h => h) (Or.inl ⟨by rfl, ?yz110_52⟩) (by assumption) ?rz110_52
      case yz110_52 => (intro w' hSw; (try dsimp only at hSw); go_simp; try with_reducible rfl)
      try simp only [Act.put, List.setIfInBounds_toArray, List.set_cons_zero, List.set_cons_succ]
      refine wpAnyH_take (i := 53) (oi := ⟨some 62, .move (.tmp 61), 4, "law.go:34", #[⟨52, .data⟩, ⟨50, .chain⟩], none⟩) (v := ?vz111_53) rfl (by kernel_rfl) (by kernel_rfl) (by kernel_rfl) (fun _ _ _ h => h) (Or.inl ⟨by rfl, ?yz111_53⟩) (by assumption) ?rz111_53
      case yz111_53 => (intro w' hSw; (try dsimp only at hSw); go_simp; try with_reducible rfl)
      try simp only [Act.put, List.setIfInBounds_toArray, List.set_cons_zero, List.set_cons_succ]
      refine wpAnyH_take (i := 54) (oi := ⟨some 63, .fieldAddr 27 (.tmp 5) 1, 0, "law.go:34", #[⟨53, .guard⟩], some (53, true)⟩) (v := undef) rfl (by kernel_rfl) (by kernel_rfl) (by kernel_rfl) (fun _ _ _ h => h) (Or.inr ⟨by rfl, rfl⟩) (by assumption) ?_
      try simp only [Act.put, List.setIfInBounds_toArray, List.set_cons_zero, List.set_cons_succ]
      refine wpAnyH_take (i := 55) (oi := ⟨some 64, .load 24 (.tmp 63), 24, "law.go:34", #[⟨54, .data⟩, ⟨53, .guard⟩], some (53, true)⟩) (v := undef) rfl (by kernel_rfl) (by kernel_rfl) (by kernel_rfl) (fun _ _ _ h => h) (Or.inr ⟨by rfl, rfl⟩) (by assumption) ?_
      try simp only [Act.put, List.setIfInBounds_toArray, List.set_cons_zero, List.set_cons_succ]
      refine wpAnyH_take (i := 57) (oi := ⟨some 66, .fieldAddr 27 (.tmp 5) 2, 0, "law.go:34", #[⟨53, .guard⟩], some (53, true)⟩) (v := undef) rfl (by kernel_rfl) (by kernel_rfl) (by kernel_rfl) (fun _ _ _ h => h) (Or.inr ⟨by rfl, rfl⟩) (by assumption) ?_
      try simp only [Act.put, List.setIfInBounds_toArray, List.set_cons_zero, List.set_cons_succ]
      refine wpAnyH_take (i := 58) (oi := ⟨some 67, .load 25 (.tmp 66), 25, "law.go:34", #[⟨57, .data⟩, ⟨53, .guard⟩], some (53, true)⟩) (v := undef) rfl (by kernel_rfl) (by kernel_rfl) (by kernel_rfl) (fun _ _ _ h => h) (Or.inr ⟨by rfl, rfl⟩) (by assumption) ?_
      try simp only [Act.put, List.setIfInBounds_toArray, List.set_cons_zero, List.set_cons_succ]
      refine wpAnyH_take (i := 56) (oi := ⟨some 65, .call { callee := .value (.func 32), args := #[.tmp 64], argTypes := #[24] }, 25, "law.go:34", #[⟨55, .data⟩, ⟨53, .chain⟩, ⟨53, .guard⟩], some (53, true)⟩) (v := undef) rfl (by kernel_rfl) (by kernel_rfl) (by kernel_rfl) (fun _ _ _ h => h) (Or.inr ⟨by rfl, rfl⟩) (by assumption) ?_
      try simp only [Act.put, List.setIfInBounds_toArray, List.set_cons_zero, List.set_cons_succ]
      refine wpAnyH_take (i := 59) (oi := ⟨some 68, .call { callee := .value (.func 14), args := #[.tmp 65, .tmp 67], argTypes := #[25, 25] }, 4, "law.go:34", #[⟨56, .data⟩, ⟨58, .data⟩, ⟨56, .chain⟩, ⟨53, .guard⟩], some (53, true)⟩) (v := undef) rfl (by kernel_rfl) (by kernel_rfl) (by kernel_rfl) (fun _ _ _ h => h) (Or.inr ⟨by rfl, rfl⟩) (by assumption) ?_
      try simp only [Act.put, List.setIfInBounds_toArray, List.set_cons_zero, List.set_cons_succ]
      refine wpAnyH_take (i := 60) (oi := ⟨some 69, .pick (.tmp 62) (.tmp 68) (.const (Value.bool false)), 4, "law.go:34", #[⟨53, .data⟩, ⟨59, .data⟩], none⟩) (v := ?vz118_60) rfl (by kernel_rfl) (by kernel_rfl) (by kernel_rfl) (fun _ _ _ h => h) (Or.inl ⟨by rfl, ?yz118_60⟩) (by assumption) ?rz118_60
      case yz118_60 => (intro w' hSw; (try dsimp only at hSw); go_simp; try with_reducible rfl)
      try simp only [Act.put, List.setIfInBounds_toArray, List.set_cons_zero, List.set_cons_succ]
      refine wpAnyH_take (i := 61) (oi := ⟨some 8, .assign (.tmp 69), 4, "law.go:34", #[⟨60, .data⟩, ⟨59, .chain⟩, ⟨0, .phase⟩, ⟨1, .phase⟩, ⟨2, .phase⟩, ⟨3, .phase⟩, ⟨4, .phase⟩, ⟨5, .phase⟩, ⟨6, .phase⟩, ⟨7, .phase⟩, ⟨8, .phase⟩, ⟨9, .phase⟩, ⟨10, .phase⟩, ⟨11, .phase⟩, ⟨12, .phase⟩, ⟨13, .phase⟩, ⟨14, .phase⟩, ⟨15, .phase⟩, ⟨16, .phase⟩, ⟨17, .phase⟩, ⟨18, .phase⟩, ⟨19, .phase⟩, ⟨20, .phase⟩, ⟨21, .phase⟩, ⟨22, .phase⟩, ⟨23, .phase⟩, ⟨24, .phase⟩, ⟨25, .phase⟩, ⟨26, .phase⟩, ⟨27, .phase⟩, ⟨28, .phase⟩, ⟨29, .phase⟩, ⟨30, .phase⟩, ⟨31, .phase⟩, ⟨32, .phase⟩, ⟨33, .phase⟩, ⟨34, .phase⟩, ⟨35, .phase⟩, ⟨36, .phase⟩, ⟨37, .phase⟩, ⟨38, .phase⟩, ⟨39, .phase⟩, ⟨40, .phase⟩, ⟨41, .phase⟩, ⟨42, .phase⟩, ⟨43, .phase⟩, ⟨44, .phase⟩, ⟨45, .phase⟩, ⟨46, .phase⟩, ⟨47, .phase⟩, ⟨48, .phase⟩, ⟨49, .phase⟩, ⟨50, .phase⟩, ⟨51, .phase⟩, ⟨52, .phase⟩, ⟨53, .phase⟩, ⟨54, .phase⟩, ⟨55, .phase⟩, ⟨56, .phase⟩, ⟨57, .phase⟩, ⟨58, .phase⟩, ⟨59, .phase⟩, ⟨60, .phase⟩], none⟩) (v := ?vz119_61) rfl (by kernel_rfl) (by kernel_rfl) (by kernel_rfl) (fun _ _ _ h => h) (Or.inl ⟨by rfl, ?yz119_61⟩) (by assumption) ?rz119_61
      case yz119_61 => (intro w' hSw; (try dsimp only at hSw); go_simp; try with_reducible rfl)
      try simp only [Act.put, List.setIfInBounds_toArray, List.set_cons_zero, List.set_cons_succ]
      refine wpAnyH_done (by kernel_rfl) ?_ _
      go_wp2_with fail
      go_ret
      exact ⟨false, rfl, (fun h => by cases h), HB0.out.trans (Below.mono (by first | exact B2x.out | exact B2x.out.drew | exact below_drewN B2x.out _) HB0.out.size)⟩
    | true =>
      have H1 := Lib.hid (hb rfl)
      clear hb
      go_wp2_with fail
      refine hK.out _ _ (SS.out _ B2x.out) (fun hHeld2 => ?_)
      clear hK K hHeld1
      try simp only [Act.put, List.setIfInBounds_toArray, List.set_cons_zero, List.set_cons_succ]
      refine wpAnyH_take (i := 6) (oi := ⟨some 15, .pick (.tmp 11) (.tmp 14) (.const (Value.bool false)), 4, "law.go:34", #[⟨2, .data⟩, ⟨5, .data⟩], none⟩) (v := ?vz120_6) rfl (by kernel_rfl) (by kernel_rfl) (by kernel_rfl) (fun _ _ _ h => h) (Or.inl ⟨by rfl, ?yz120_6⟩) (by assumption) ?rz120_6
      case yz120_6 => (intro w' hSw; (try dsimp only at hSw); go_simp; try with_reducible rfl)
      try simp only [Act.put, List.setIfInBounds_toArray, List.set_cons_zero, List.set_cons_succ]
      refine wpAnyH_take (i := 7) (oi := ⟨some 16, .move (.tmp 15), 4, "law.go:34", #[⟨6, .data⟩, ⟨5, .chain⟩], none⟩) (v := ?vz121_7) rfl (by kernel_rfl) (by kernel_rfl) (by kernel_rfl) (fun _ _ _ h => h) (Or.inl ⟨by rfl, ?yz121_7⟩) (by assumption) ?rz121_7
      case yz121_7 => (intro w' hSw; (try dsimp only at hSw); go_simp; try with_reducible rfl)
      try simp only [Act.put, List.setIfInBounds_toArray, List.set_cons_zero, List.set_cons_succ]
      refine wpAnyH_take (i := 8) (oi := ⟨some 17, .fieldAddr 27 (.tmp 5) 1, 0, "law.go:34", #[⟨7, .guard⟩], some (7, true)⟩) (v := ?vz122_8) rfl (by kernel_rfl) (by kernel_rfl) (by kernel_rfl) (fun _ _ _ h => h) (Or.inl ⟨by rfl, ?yz122_8⟩) (by assumption) ?rz122_8
      case yz122_8 => (intro w' hSw; (try dsimp only at hSw); go_simp; try with_reducible rfl)
      try simp only [Act.put, List.setIfInBounds_toArray, List.set_cons_zero, List.set_cons_succ]
      refine wpAnyH_take (i := 9) (oi := ⟨some 18, .load 24 (.tmp 17), 24, "law.go:34", #[⟨8, .data⟩, ⟨7, .guard⟩], some (7, true)⟩) (v := ?vz123_9) rfl (by kernel_rfl) (by kernel_rfl) (by kernel_rfl) (fun _ _ _ h => h) (Or.inl ⟨by rfl, ?yz123_9⟩) (by assumption) ?rz123_9
      case yz123_9 => (intro w' hSw; (try dsimp only at hSw); go_simp; try with_reducible rfl)
      try simp only [Act.put, List.setIfInBounds_toArray, List.set_cons_zero, List.set_cons_succ]
      refine wpAnyH_ready (rs := [10]) (by kernel_rfl) (by simp) ?_
      refine AllReadyH.cons (o := ⟨some 19, .call { callee := .value (.func 30), args := #[.tmp 18], argTypes := #[24] }, 4, "law.go:34", #[⟨9, .data⟩, ⟨7, .chain⟩, ⟨7, .guard⟩], some (7, true)⟩) rfl (fun K hK => ?_) AllReadyH.nil
      go_simp
      go_at_call 30
      refine (FEN.out _ (by first | exact B2x.out | exact B2x.out.drew | exact below_drewN B2x.out _)).mono ?_
      rintro e x3 ⟨b, rfl, hb, bb⟩
      have B3x := Lib.hid bb
      clear bb
      cases b with
      | false =>
        clear hb
        go_wp2_with fail
        refine hK.out _ _ (SS.out _ B3x.out) (fun hHeld3 => ?_)
        clear hK K hHeld2
        try simp only [Act.put, List.setIfInBounds_toArray, List.set_cons_zero, List.set_cons_succ]
        refine wpAnyH_take (i := 11) (oi := ⟨some 20, .pick (.tmp 16) (.tmp 19) (.const (Value.bool false)), 4, "law.go:34", #[⟨7, .data⟩, ⟨10, .data⟩], none⟩) (v := ?vz124_11) rfl (by kernel_rfl) (by kernel_rfl) (by kernel_rfl) (fun _ _ _ h => h) (Or.inl ⟨by rfl, ?yz124_11⟩) (by assumption) ?rz124_11
        case yz124_11 => (intro w' hSw; (try dsimp only at hSw); go_simp; try with_reducible rfl)
        try simp only [Act.put, List.setIfInBounds_toArray, List.set_cons_zero, List.set_cons_succ]
        refine wpAnyH_take (i := 12) (oi := ⟨some 21, .move (.tmp 20), 4, "law.go:34", #[⟨11, .data⟩, ⟨10, .chain⟩], none⟩) (v := ?vz125_12) rfl (by kernel_rfl) (by kernel_rfl) (by kernel_rfl) (fun _ _ _ h => h) (Or.inl ⟨by rfl, ?yz125_12⟩) (by assumption) ?rz125_12
        case yz125_12 => (intro w' hSw; (try dsimp only at hSw); go_simp; try with_reducible rfl)
        try simp only [Act.put, List.setIfInBounds_toArray, List.set_cons_zero, List.set_cons_succ]
        refine wpAnyH_take (i := 13) (oi := ⟨some 22, .fieldAddr 27 (.tmp 5) 2, 0, "law.go:34", #[⟨12, .guard⟩], some (12, true)⟩) (v := undef) rfl (by kernel_rfl) (by kernel_rfl) (by kernel_rfl) (fun _ _ _ h => h) (Or.inr ⟨by rfl, rfl⟩) (by assumption) ?_
        try simp only [Act.put, List.setIfInBounds_toArray, List.set_cons_zero, List.set_cons_succ]
        refine wpAnyH_take (i := 14) (oi := ⟨some 23, .load 25 (.tmp 22), 25, "law.go:34", #[⟨13, .data⟩, ⟨12, .guard⟩], some (12, true)⟩) (v := undef) rfl (by kernel_rfl) (by kernel_rfl) (by kernel_rfl) (fun _ _ _ h => h) (Or.inr ⟨by rfl, rfl⟩) (by assumption) ?_
        try simp only [Act.put, List.setIfInBounds_toArray, List.set_cons_zero, List.set_cons_succ]
        refine wpAnyH_take (i := 15) (oi := ⟨some 24, .call { callee := .builtin .len, args := #[.tmp 23], argTypes := #[25] }, 3, "law.go:34", #[⟨14, .data⟩, ⟨12, .guard⟩], some (12, true)⟩) (v := undef) rfl (by kernel_rfl) (by kernel_rfl) (by kernel_rfl) (fun _ _ _ h => h) (Or.inr ⟨by rfl, rfl⟩) (by assumption) ?_
        try simp only [Act.put, List.setIfInBounds_toArray, List.set_cons_zero, List.set_cons_succ]
        refine wpAnyH_take (i := 16) (oi := ⟨some 25, .binOp .leq 3 (.tmp 24) (.const (Value.int IntKind.i64 40)) 3, 4, "law.go:34", #[⟨15, .data⟩, ⟨12, .guard⟩], some (12, true)⟩) (v := undef) rfl (by kernel_rfl) (by kernel_rfl) (by kernel_rfl) (fun _ _ _ h => h) (Or.inr ⟨by rfl, rfl⟩) (by assumption) ?_
        try simp only [Act.put, List.setIfInBounds_toArray, List.set_cons_zero, List.set_cons_succ]
        refine wpAnyH_take (i := 17) (oi := ⟨some 26, .pick (.tmp 21) (.tmp 25) (.const (Value.bool false)), 4, "law.go:34", #[⟨12, .data⟩, ⟨16, .data⟩], none⟩) (v := ?vz130_17) rfl (by kernel_rfl) (by kernel_rfl) (by kernel_rfl) (fun _ _ _ h => h) (Or.inl ⟨by rfl, ?yz130_17⟩) (by assumption) ?rz130_17
        case yz130_17 => (intro w' hSw; (try dsimp only at hSw); go_simp; try with_reducible rfl)
        try simp only [Act.put, List.setIfInBounds_toArray, List.set_cons_zero, List.set_cons_succ]
        refine wpAnyH_take (i := 18) (oi := ⟨some 27, .move (.tmp 26), 4, "law.go:34", #[⟨17, .data⟩, ⟨12, .chain⟩], none⟩) (v := ?vz131_18) rfl (by kernel_rfl) (by kernel_rfl) (by kernel_rfl) (fun _ _ _ h => h) (Or.inl ⟨by rfl, ?yz131_18⟩) (by assumption) ?rz131_18
        case yz131_18 => (intro w' hSw; (try dsimp only at hSw); go_simp; try with_reducible rfl)
        try simp only [Act.put, List.setIfInBounds_toArray, List.set_cons_zero, List.set_cons_succ]
        refine wpAnyH_take (i := 19) (oi := ⟨some 28, .move (.tmp 2), 24, "law.go:34", #[⟨18, .guard⟩], some (18, true)⟩) (v := undef) rfl (by kernel_rfl) (by kernel_rfl) (by kernel_rfl) (fun _ _ _ h => h) (Or.inr ⟨by rfl, rfl⟩) (by assumption) ?_
        try simp only [Act.put, List.setIfInBounds_toArray, List.set_cons_zero, List.set_cons_succ]
        refine wpAnyH_take (i := 20) (oi := ⟨some 29, .call { callee := .value (.func 30), args := #[.tmp 28], argTypes := #[24] }, 4, "law.go:34", #[⟨19, .data⟩, ⟨18, .chain⟩, ⟨18, .guard⟩], some (18, true)⟩) (v := undef) rfl (by kernel_rfl) (by kernel_rfl) (by kernel_rfl) (fun _ _ _ h => h) (Or.inr ⟨by rfl, rfl⟩) (by assumption) ?_
        try simp only [Act.put, List.setIfInBounds_toArray, List.set_cons_zero, List.set_cons_succ]
        refine wpAnyH_take (i := 21) (oi := ⟨some 30, .pick (.tmp 27) (.tmp 29) (.const (Value.bool false)), 4, "law.go:34", #[⟨18, .data⟩, ⟨20, .data⟩], none⟩) (v := ?vz134_21) rfl (by kernel_rfl) (by kernel_rfl) (by kernel_rfl) (fun _ _ _ h => h) (Or.inl ⟨by rfl, ?yz134_21⟩) (by assumption) ?rz134_21
        case yz134_21 => (intro w' hSw; (try dsimp only at hSw); go_simp; try with_reducible rfl)
        try simp only [Act.put, List.setIfInBounds_toArray, List.set_cons_zero, List.set_cons_succ]
        refine wpAnyH_take (i := 22) (oi := ⟨some 31, .move (.tmp 30), 4, "law.go:34", #[⟨21, .data⟩, ⟨20, .chain⟩], none⟩) (v := ?vz135_22) rfl (by kernel_rfl) (by kernel_rfl) (by kernel_rfl) (fun _ _ _ h => h) (Or.inl ⟨by rfl, ?yz135_22⟩) (by assumption) ?rz135_22
        case yz135_22 => (intro w' hSw; (try dsimp only at hSw); go_simp; try with_reducible rfl)
        try simp only [Act.put, List.setIfInBounds_toArray, List.set_cons_zero, List.set_cons_succ]
        refine wpAnyH_take (i := 23) (oi := ⟨some 32, .move (.tmp 3), 23, "law.go:34", #[⟨22, .guard⟩], some (22, true)⟩) (v := undef) rfl (by kernel_rfl) (by kernel_rfl) (by kernel_rfl) (fun _ _ _ h => h) (Or.inr ⟨by rfl, rfl⟩) (by assumption) ?_
        try simp only [Act.put, List.setIfInBounds_toArray, List.set_cons_zero, List.set_cons_succ]
        refine wpAnyH_take (i := 24) (oi := ⟨some 33, .call { callee := .value (.func 28), args := #[.tmp 32], argTypes := #[23] }, 4, "law.go:34", #[⟨23, .data⟩, ⟨22, .chain⟩, ⟨22, .guard⟩], some (22, true)⟩) (v := undef) rfl (by kernel_rfl) (by kernel_rfl) (by kernel_rfl) (fun _ _ _ h => h) (Or.inr ⟨by rfl, rfl⟩) (by assumption) ?_
        try simp only [Act.put, List.setIfInBounds_toArray, List.set_cons_zero, List.set_cons_succ]
        refine wpAnyH_take (i := 25) (oi := ⟨some 34, .pick (.tmp 31) (.tmp 33) (.const (Value.bool false)), 4, "law.go:34", #[⟨22, .data⟩, ⟨24, .data⟩], none⟩) (v := ?vz138_25) rfl (by kernel_rfl) (by kernel_rfl) (by kernel_rfl) (fun _ _ _ h => h) (Or.inl ⟨by rfl, ?yz138_25⟩) (by assumption) ?rz138_25
        case yz138_25 => (intro w' hSw; (try dsimp only at hSw); go_simp; try with_reducible rfl)
        try simp only [Act.put, List.setIfInBounds_toArray, List.set_cons_zero, List.set_cons_succ]
        refine wpAnyH_take (i := 26) (oi := ⟨some 35, .move (.tmp 34), 4, "law.go:34", #[⟨25, .data⟩, ⟨24, .chain⟩], none⟩) (v := ?vz139_26) rfl (by kernel_rfl) (by kernel_rfl) (by kernel_rfl) (fun _ _ _ h => h) (Or.inl ⟨by rfl, ?yz139_26⟩) (by assumption) ?rz139_26
        case yz139_26 => (intro w' hSw; (try dsimp only at hSw); go_simp; try with_reducible rfl)
        try simp only [Act.put, List.setIfInBounds_toArray, List.set_cons_zero, List.set_cons_succ]
        refine wpAnyH_take (i := 27) (oi := ⟨some 36, .move (.tmp 0), 23, "law.go:34", #[⟨26, .guard⟩], some (26, true)⟩) (v := undef) rfl (by kernel_rfl) (by kernel_rfl) (by kernel_rfl) (fun _ _ _ h => h) (Or.inr ⟨by rfl, rfl⟩) (by assumption) ?_
        try simp only [Act.put, List.setIfInBounds_toArray, List.set_cons_zero, List.set_cons_succ]
        refine wpAnyH_take (i := 28) (oi := ⟨some 37, .call { callee := .value (.func 29), args := #[.tmp 36], argTypes := #[23] }, 38, "law.go:34", #[⟨27, .data⟩, ⟨26, .chain⟩, ⟨26, .guard⟩], some (26, true)⟩) (v := undef) rfl (by kernel_rfl) (by kernel_rfl) (by kernel_rfl) (fun _ _ _ h => h) (Or.inr ⟨by rfl, rfl⟩) (by assumption) ?_
        try simp only [Act.put, List.setIfInBounds_toArray, List.set_cons_zero, List.set_cons_succ]
        refine wpAnyH_take (i := 29) (oi := ⟨some 38, .binOp .eql 38 (.tmp 37) (.const Value.nilIface) 38, 4, "law.go:34", #[⟨28, .data⟩, ⟨26, .guard⟩], some (26, true)⟩) (v := undef) rfl (by kernel_rfl) (by kernel_rfl) (by kernel_rfl) (fun _ _ _ h => h) (Or.inr ⟨by rfl, rfl⟩) (by assumption) ?_
        try simp only [Act.put, List.setIfInBounds_toArray, List.set_cons_zero, List.set_cons_succ]
        refine wpAnyH_take (i := 30) (oi := ⟨some 39, .pick (.tmp 35) (.tmp 38) (.const (Value.bool false)), 4, "law.go:34", #[⟨26, .data⟩, ⟨29, .data⟩], none⟩) (v := ?vz143_30) rfl (by kernel_rfl) (by kernel_rfl) (by kernel_rfl) (fun _ _ _ h => h) (Or.inl ⟨by rfl, ?yz143_30⟩) (by assumption) ?rz143_30
        case yz143_30 => (intro w' hSw; (try dsimp only at hSw); go_simp; try with_reducible rfl)
        try simp only [Act.put, List.setIfInBounds_toArray, List.set_cons_zero, List.set_cons_succ]
        refine wpAnyH_take (i := 31) (oi := ⟨some 40, .move (.tmp 39), 4, "law.go:34", #[⟨30, .data⟩, ⟨28, .chain⟩], none⟩) (v := ?vz144_31) rfl (by kernel_rfl) (by kernel_rfl) (by kernel_rfl) (fun _ _ _ h => h) (Or.inl ⟨by rfl, ?yz144_31⟩) (by assumption) ?rz144_31
        case yz144_31 => (intro w' hSw; (try dsimp only at hSw); go_simp; try with_reducible rfl)
        try simp only [Act.put, List.setIfInBounds_toArray, List.set_cons_zero, List.set_cons_succ]
        refine wpAnyH_take (i := 32) (oi := ⟨some 41, .fieldAddr 27 (.tmp 5) 0, 0, "law.go:34", #[⟨31, .guard⟩], some (31, true)⟩) (v := undef) rfl (by kernel_rfl) (by kernel_rfl) (by kernel_rfl) (fun _ _ _ h => h) (Or.inr ⟨by rfl, rfl⟩) (by assumption) ?_
        try simp only [Act.put, List.setIfInBounds_toArray, List.set_cons_zero, List.set_cons_succ]
        refine wpAnyH_take (i := 33) (oi := ⟨some 42, .load 23 (.tmp 41), 23, "law.go:34", #[⟨32, .data⟩, ⟨31, .guard⟩], some (31, true)⟩) (v := undef) rfl (by kernel_rfl) (by kernel_rfl) (by kernel_rfl) (fun _ _ _ h => h) (Or.inr ⟨by rfl, rfl⟩) (by assumption) ?_
        try simp only [Act.put, List.setIfInBounds_toArray, List.set_cons_zero, List.set_cons_succ]
        refine wpAnyH_take (i := 34) (oi := ⟨some 43, .call { callee := .value (.func 29), args := #[.tmp 42], argTypes := #[23] }, 38, "law.go:34", #[⟨33, .data⟩, ⟨31, .chain⟩, ⟨31, .guard⟩], some (31, true)⟩) (v := undef) rfl (by kernel_rfl) (by kernel_rfl) (by kernel_rfl) (fun _ _ _ h => h) (Or.inr ⟨by rfl, rfl⟩) (by assumption) ?_
        try simp only [Act.put, List.setIfInBounds_toArray, List.set_cons_zero, List.set_cons_succ]
        refine wpAnyH_take (i := 35) (oi := ⟨some 44, .binOp .eql 38 (.tmp 43) (.const Value.nilIface) 38, 4, "law.go:34", #[⟨34, .data⟩, ⟨31, .guard⟩], some (31, true)⟩) (v := undef) rfl (by kernel_rfl) (by kernel_rfl) (by kernel_rfl) (fun _ _ _ h => h) (Or.inr ⟨by rfl, rfl⟩) (by assumption) ?_
        try simp only [Act.put, List.setIfInBounds_toArray, List.set_cons_zero, List.set_cons_succ]
        refine wpAnyH_take (i := 36) (oi := ⟨some 45, .pick (.tmp 40) (.tmp 44) (.const (Value.bool false)), 4, "law.go:34", #[⟨31, .data⟩, ⟨35, .data⟩], none⟩) (v := ?vz149_36) rfl (by kernel_rfl) (by kernel_rfl) (by kernel_rfl) (fun _ _ _ h => h) (Or.inl ⟨by rfl, ?yz149_36⟩) (by assumption) ?rz149_36
        case yz149_36 => (intro w' hSw; (try dsimp only at hSw); go_simp; try with_reducible rfl)
        try simp only [Act.put, List.setIfInBounds_toArray, List.set_cons_zero, List.set_cons_succ]
        refine wpAnyH_take (i := 37) (oi := ⟨some 46, .move (.tmp 45), 4, "law.go:34", #[⟨36, .data⟩, ⟨34, .chain⟩], none⟩) (v := ?vz150_37) rfl (by kernel_rfl) (by kernel_rfl) (by kernel_rfl) (fun _ _ _ h => h) (Or.inl ⟨by rfl, ?yz150_37⟩) (by assumption) ?rz150_37
        case yz150_37 => (intro w' hSw; (try dsimp only at hSw); go_simp; try with_reducible rfl)
        try simp only [Act.put, List.setIfInBounds_toArray, List.set_cons_zero, List.set_cons_succ]
        refine wpAnyH_take (i := 38) (oi := ⟨some 47, .move (.tmp 2), 24, "law.go:34", #[⟨37, .guard⟩], some (37, true)⟩) (v := undef) rfl (by kernel_rfl) (by kernel_rfl) (by kernel_rfl) (fun _ _ _ h => h) (Or.inr ⟨by rfl, rfl⟩) (by assumption) ?_
        try simp only [Act.put, List.setIfInBounds_toArray, List.set_cons_zero, List.set_cons_succ]
        refine wpAnyH_take (i := 39) (oi := ⟨some 48, .call { callee := .value (.func 31), args := #[.tmp 47], argTypes := #[24] }, 38, "law.go:34", #[⟨38, .data⟩, ⟨37, .chain⟩, ⟨37, .guard⟩], some (37, true)⟩) (v := undef) rfl (by kernel_rfl) (by kernel_rfl) (by kernel_rfl) (fun _ _ _ h => h) (Or.inr ⟨by rfl, rfl⟩) (by assumption) ?_
        try simp only [Act.put, List.setIfInBounds_toArray, List.set_cons_zero, List.set_cons_succ]
        refine wpAnyH_take (i := 40) (oi := ⟨some 49, .binOp .eql 38 (.tmp 48) (.const Value.nilIface) 38, 4, "law.go:34", #[⟨39, .data⟩, ⟨37, .guard⟩], some (37, true)⟩) (v := undef) rfl (by kernel_rfl) (by kernel_rfl) (by kernel_rfl) (fun _ _ _ h => h) (Or.inr ⟨by rfl, rfl⟩) (by assumption) ?_
        try simp only [Act.put, List.setIfInBounds_toArray, List.set_cons_zero, List.set_cons_succ]
        refine wpAnyH_take (i := 41) (oi := ⟨some 50, .pick (.tmp 46) (.tmp 49) (.const (Value.bool false)), 4, "law.go:34", #[⟨37, .data⟩, ⟨40, .data⟩], none⟩) (v := ?vz154_41) rfl (by kernel_rfl) (by kernel_rfl) (by kernel_rfl) (fun _ _ _ h => h) (Or.inl ⟨by rfl, ?yz154_41⟩) (by assumption) ?rz154_41
        case yz154_41 => (intro w' hSw; (try dsimp only at hSw); go_simp; try with_reducible rfl)
        try simp only [Act.put, List.setIfInBounds_toArray, List.set_cons_zero, List.set_cons_succ]
        refine wpAnyH_take (i := 42) (oi := ⟨some 51, .move (.tmp 50), 4, "law.go:34", #[⟨41, .data⟩, ⟨39, .chain⟩], none⟩) (v := ?vz155_42) rfl (by kernel_rfl) (by kernel_rfl) (by kernel_rfl) (fun _ _ _ h => h) (Or.inl ⟨by rfl, ?yz155_42⟩) (by assumption) ?rz155_42
        case yz155_42 => (intro w' hSw; (try dsimp only at hSw); go_simp; try with_reducible rfl)
        try simp only [Act.put, List.setIfInBounds_toArray, List.set_cons_zero, List.set_cons_succ]
        refine wpAnyH_take (i := 43) (oi := ⟨some 52, .move (.tmp 3), 23, "law.go:34", #[⟨42, .guard⟩], some (42, true)⟩) (v := undef) rfl (by kernel_rfl) (by kernel_rfl) (by kernel_rfl) (fun _ _ _ h => h) (Or.inr ⟨by rfl, rfl⟩) (by assumption) ?_
        try simp only [Act.put, List.setIfInBounds_toArray, List.set_cons_zero, List.set_cons_succ]
        refine wpAnyH_take (i := 44) (oi := ⟨some 53, .call { callee := .value (.func 29), args := #[.tmp 52], argTypes := #[23] }, 38, "law.go:34", #[⟨43, .data⟩, ⟨42, .chain⟩, ⟨42, .guard⟩], some (42, true)⟩) (v := undef) rfl (by kernel_rfl) (by kernel_rfl) (by kernel_rfl) (fun _ _ _ h => h) (Or.inr ⟨by rfl, rfl⟩) (by assumption) ?_
        try simp only [Act.put, List.setIfInBounds_toArray, List.set_cons_zero, List.set_cons_succ]
        refine wpAnyH_take (i := 45) (oi := ⟨some 54, .binOp .eql 38 (.tmp 53) (.const Value.nilIface) 38, 4, "law.go:34", #[⟨44, .data⟩, ⟨42, .guard⟩], some (42, true)⟩) (v := undef) rfl (by kernel_rfl) (by kernel_rfl) (by kernel_rfl) (fun _ _ _ h => h) (Or.inr ⟨by rfl, rfl⟩) (by assumption) ?_
        try simp only [Act.put, List.setIfInBounds_toArray, List.set_cons_zero, List.set_cons_succ]
        refine wpAnyH_take (i := 46) (oi := ⟨some 55, .pick (.tmp 51) (.tmp 54) (.const (Value.bool false)), 4, "law.go:34", #[⟨42, .data⟩, ⟨45, .data⟩], none⟩) (v := ?vz159_46) rfl (by kernel_rfl) (by kernel_rfl) (by kernel_rfl) (fun _ _ _ h => h) (Or.inl ⟨by rfl, ?yz159_46⟩) (by assumption) ?rz159_46
        case yz159_46 => (intro w' hSw; (try dsimp only at hSw); go_simp; try with_reducible rfl)
        try simp only [Act.put, List.setIfInBounds_toArray, List.set_cons_zero, List.set_cons_succ]
        refine wpAnyH_take (i := 47) (oi := ⟨some 56, .move (.tmp 55), 4, "law.go:34", #[⟨46, .data⟩, ⟨44, .chain⟩], none⟩) (v := ?vz160_47) rfl (by kernel_rfl) (by kernel_rfl) (by kernel_rfl) (fun _ _ _ h => h) (Or.inl ⟨by rfl, ?yz160_47⟩) (by assumption) ?rz160_47
        case yz160_47 => (intro w' hSw; (try dsimp only at hSw); go_simp; try with_reducible rfl)
        try simp only [Act.put, List.setIfInBounds_toArray, List.set_cons_zero, List.set_cons_succ]
        refine wpAnyH_take (i := 48) (oi := ⟨some 57, .fieldAddr 27 (.tmp 5) 1, 0, "law.go:34", #[⟨47, .guard⟩], some (47, true)⟩) (v := undef) rfl (by kernel_rfl) (by kernel_rfl) (by kernel_rfl) (fun _ _ _ h => h) (Or.inr ⟨by rfl, rfl⟩) (by assumption) ?_
        try simp only [Act.put, List.setIfInBounds_toArray, List.set_cons_zero, List.set_cons_succ]
        refine wpAnyH_take (i := 49) (oi := ⟨some 58, .load 24 (.tmp 57), 24, "law.go:34", #[⟨48, .data⟩, ⟨47, .guard⟩], some (47, true)⟩) (v := undef) rfl (by kernel_rfl) (by kernel_rfl) (by kernel_rfl) (fun _ _ _ h => h) (Or.inr ⟨by rfl, rfl⟩) (by assumption) ?_
        try simp only [Act.put, List.setIfInBounds_toArray, List.set_cons_zero, List.set_cons_succ]
        refine wpAnyH_take (i := 50) (oi := ⟨some 59, .call { callee := .value (.func 31), args := #[.tmp 58], argTypes := #[24] }, 38, "law.go:34", #[⟨49, .data⟩, ⟨47, .chain⟩, ⟨47, .guard⟩], some (47, true)⟩) (v := undef) rfl (by kernel_rfl) (by kernel_rfl) (by kernel_rfl) (fun _ _ _ h => h) (Or.inr ⟨by rfl, rfl⟩) (by assumption) ?_
        try simp only [Act.put, List.setIfInBounds_toArray, List.set_cons_zero, List.set_cons_succ]
        refine wpAnyH_take (i := 51) (oi := ⟨some 60, .binOp .eql 38 (.tmp 59) (.const Value.nilIface) 38, 4, "law.go:34", #[⟨50, .data⟩, ⟨47, .guard⟩], some (47, true)⟩) (v := undef) rfl (by kernel_rfl) (by kernel_rfl) (by kernel_rfl) (fun _ _ _ h => h) (Or.inr ⟨by rfl, rfl⟩) (by assumption) ?_
        try simp only [Act.put, List.setIfInBounds_toArray, List.set_cons_zero, List.set_cons_succ]
        refine wpAnyH_take (i := 52) (oi := ⟨some 61, .pick (.tmp 56) (.tmp 60) (.const (Value.bool false)), 4, "law.go:34", #[⟨47, .data⟩, ⟨51, .data⟩], none⟩) (v := ?vz165_52) rfl (by kernel_rfl) (by kernel_rfl) (by kernel_rfl) (fun _ _ _ h => h) (Or.inl ⟨by rfl, ?yz165_52⟩) (by assumption) ?rz165_52
        case yz165_52 => (intro w' hSw; (try dsimp only at hSw); go_simp; try with_reducible rfl)
        try simp only [Act.put, List.setIfInBounds_toArray, List.set_cons_zero, List.set_cons_succ]
        refine wpAnyH_take (i := 53) (oi := ⟨some 62, .move (.tmp 61), 4, "law.go:34", #[⟨52, .data⟩, ⟨50, .chain⟩], none⟩) (v := ?vz166_53) rfl (by kernel_rfl) (by kernel_rfl) (by kernel_rfl) (fun _ _ _ h => h) (Or.inl ⟨by rfl, ?yz166_53⟩) (by assumption) ?rz166_53
        case yz166_53 => (intro w' hSw; (try dsimp only at hSw); go_simp; try with_reducible rfl)
        try simp only [Act.put, List.setIfInBounds_toArray, List.set_cons_zero, List.set_cons_succ]
        refine wpAnyH_take (i := 54) (oi := ⟨some 63, .fieldAddr 27 (.tmp 5) 1, 0, "law.go:34", #[⟨53, .guard⟩], some (53, true)⟩) (v := undef) rfl (by kernel_rfl) (by kernel_rfl) (by kernel_rfl) (fun _ _ _ h => h) (Or.inr ⟨by rfl, rfl⟩) (by assumption) ?_
        try simp only [Act.put, List.setIfInBounds_toArray, List.set_cons_zero, List.set_cons_succ]
        refine wpAnyH_take (i := 55) (oi := ⟨some 64, .load 24 (.tmp 63), 24, "law.go:34", #[⟨54, .data⟩, ⟨53, .guard⟩], some (53, true)⟩) (v := undef) rfl (by kernel_rfl) (by kernel_rfl) (by kernel_rfl) (fun _ _ _ h => h) (Or.inr ⟨by rfl, rfl⟩) (by assumption) ?_
        try simp only [Act.put, List.setIfInBounds_toArray, List.set_cons_zero, List.set_cons_succ]
        refine wpAnyH_take (i := 57) (oi := ⟨some 66, .fieldAddr 27 (.tmp 5) 2, 0, "law.go:34", #[⟨53, .guard⟩], some (53, true)⟩) (v := undef) rfl (by kernel_rfl) (by kernel_rfl) (by kernel_rfl) (fun _ _ _ h => h) (Or.inr ⟨by rfl, rfl⟩) (by assumption) ?_
        try simp only [Act.put, List.setIfInBounds_toArray, List.set_cons_zero, List.set_cons_succ]
        refine wpAnyH_take (i := 58) (oi := ⟨some 67, .load 25 (.tmp 66), 25, "law.go:34", #[⟨57, .data⟩, ⟨53, .guard⟩], some (53, true)⟩) (v := undef) rfl (by kernel_rfl) (by kernel_rfl) (by kernel_rfl) (fun _ _ _ h => h) (Or.inr ⟨by rfl, rfl⟩) (by assumption) ?_
        try simp only [Act.put, List.setIfInBounds_toArray, List.set_cons_zero, List.set_cons_succ]
        refine wpAnyH_take (i := 56) (oi := ⟨some 65, .call { callee := .value (.func 32), args := #[.tmp 64], argTypes := #[24] }, 25, "law.go:34", #[⟨55, .data⟩, ⟨53, .chain⟩, ⟨53, .guard⟩], some (53, true)⟩) (v := undef) rfl (by kernel_rfl) (by kernel_rfl) (by kernel_rfl) (fun _ _ _ h => h) (Or.inr ⟨by rfl, rfl⟩) (by assumption) ?_
        try simp only [Act.put, List.setIfInBounds_toArray, List.set_cons_zero, List.set_cons_succ]
        refine wpAnyH_take (i := 59) (oi := ⟨some 68, .call { callee := .value (.func 14), args := #[.tmp 65, .tmp 67], argTypes := #[25, 25] }, 4, "law.go:34", #[⟨56, .data⟩, ⟨58, .data⟩, ⟨56, .chain⟩, ⟨53, .guard⟩], some (53, true)⟩) (v := undef) rfl (by kernel_rfl) (by kernel_rfl) (by kernel_rfl) (fun _ _ _ h => h) (Or.inr ⟨by rfl, rfl⟩) (by assumption) ?_
        try simp only [Act.put, List.setIfInBounds_toArray, List.set_cons_zero, List.set_cons_succ]
        refine wpAnyH_take (i := 60) (oi := ⟨some 69, .pick (.tmp 62) (.tmp 68) (.const (Value.bool false)), 4, "law.go:34", #[⟨53, .data⟩, ⟨59, .data⟩], none⟩) (v := ?vz173_60) rfl (by kernel_rfl) (by kernel_rfl) (by kernel_rfl) (fun _ _ _ h => h) (Or.inl ⟨by rfl, ?yz173_60⟩) (by assumption) ?rz173_60
        case yz173_60 => (intro w' hSw; (try dsimp only at hSw); go_simp; try with_reducible rfl)
        try simp only [Act.put, List.setIfInBounds_toArray, List.set_cons_zero, List.set_cons_succ]
        refine wpAnyH_take (i := 61) (oi := ⟨some 8, .assign (.tmp 69), 4, "law.go:34", #[⟨60, .data⟩, ⟨59, .chain⟩, ⟨0, .phase⟩, ⟨1, .phase⟩, ⟨2, .phase⟩, ⟨3, .phase⟩, ⟨4, .phase⟩, ⟨5, .phase⟩, ⟨6, .phase⟩, ⟨7, .phase⟩, ⟨8, .phase⟩, ⟨9, .phase⟩, ⟨10, .phase⟩, ⟨11, .phase⟩, ⟨12, .phase⟩, ⟨13, .phase⟩, ⟨14, .phase⟩, ⟨15, .phase⟩, ⟨16, .phase⟩, ⟨17, .phase⟩, ⟨18, .phase⟩, ⟨19, .phase⟩, ⟨20, .phase⟩, ⟨21, .phase⟩, ⟨22, .phase⟩, ⟨23, .phase⟩, ⟨24, .phase⟩, ⟨25, .phase⟩, ⟨26, .phase⟩, ⟨27, .phase⟩, ⟨28, .phase⟩, ⟨29, .phase⟩, ⟨30, .phase⟩, ⟨31, .phase⟩, ⟨32, .phase⟩, ⟨33, .phase⟩, ⟨34, .phase⟩, ⟨35, .phase⟩, ⟨36, .phase⟩, ⟨37, .phase⟩, ⟨38, .phase⟩, ⟨39, .phase⟩, ⟨40, .phase⟩, ⟨41, .phase⟩, ⟨42, .phase⟩, ⟨43, .phase⟩, ⟨44, .phase⟩, ⟨45, .phase⟩, ⟨46, .phase⟩, ⟨47, .phase⟩, ⟨48, .phase⟩, ⟨49, .phase⟩, ⟨50, .phase⟩, ⟨51, .phase⟩, ⟨52, .phase⟩, ⟨53, .phase⟩, ⟨54, .phase⟩, ⟨55, .phase⟩, ⟨56, .phase⟩, ⟨57, .phase⟩, ⟨58, .phase⟩, ⟨59, .phase⟩, ⟨60, .phase⟩], none⟩) (v := ?vz174_61) rfl (by kernel_rfl) (by kernel_rfl) (by kernel_rfl) (fun _ _ _ h => h) (Or.inl ⟨by rfl, ?yz174_61⟩) (by assumption) ?rz174_61
        case yz174_61 => (intro w' hSw; (try dsimp only at hSw); go_simp; try with_reducible rfl)
        try simp only [Act.put, List.setIfInBounds_toArray, List.set_cons_zero, List.set_cons_succ]
        refine wpAnyH_done (by kernel_rfl) ?_ _
        go_wp2_with fail
        go_ret
        exact ⟨false, rfl, (fun h => by cases h), HB0.out.trans (Below.mono (by first | exact B3x.out | exact B3x.out.drew | exact below_drewN B3x.out _) HB0.out.size)⟩
      | true =>
        have H2 := Lib.hid (hb rfl)
        clear hb
        go_wp2_with fail
        refine hK.out _ _ (SS.out _ B3x.out) (fun hHeld3 => ?_)
        clear hK K hHeld2
        try simp only [Act.put, List.setIfInBounds_toArray, List.set_cons_zero, List.set_cons_succ]
        refine wpAnyH_take (i := 11) (oi := ⟨some 20, .pick (.tmp 16) (.tmp 19) (.const (Value.bool false)), 4, "law.go:34", #[⟨7, .data⟩, ⟨10, .data⟩], none⟩) (v := ?vz175_11) rfl (by kernel_rfl) (by kernel_rfl) (by kernel_rfl) (fun _ _ _ h => h) (Or.inl ⟨by rfl, ?yz175_11⟩) (by assumption) ?rz175_11
        case yz175_11 => (intro w' hSw; (try dsimp only at hSw); go_simp; try with_reducible rfl)
        try simp only [Act.put, List.setIfInBounds_toArray, List.set_cons_zero, List.set_cons_succ]
        refine wpAnyH_take (i := 12) (oi := ⟨some 21, .move (.tmp 20), 4, "law.go:34", #[⟨11, .data⟩, ⟨10, .chain⟩], none⟩) (v := ?vz176_12) rfl (by kernel_rfl) (by kernel_rfl) (by kernel_rfl) (fun _ _ _ h => h) (Or.inl ⟨by rfl, ?yz176_12⟩) (by assumption) ?rz176_12
        case yz176_12 => (intro w' hSw; (try dsimp only at hSw); go_simp; try with_reducible rfl)
        try simp only [Act.put, List.setIfInBounds_toArray, List.set_cons_zero, List.set_cons_succ]
        refine wpAnyH_take (i := 13) (oi := ⟨some 22, .fieldAddr 27 (.tmp 5) 2, 0, "law.go:34", #[⟨12, .guard⟩], some (12, true)⟩) (v := ?vz177_13) rfl (by kernel_rfl) (by kernel_rfl) (by kernel_rfl) (fun _ _ _ h => h) (Or.inl ⟨by rfl, ?yz177_13⟩) (by assumption) ?rz177_13
        case yz177_13 => (intro w' hSw; (try dsimp only at hSw); go_simp; try with_reducible rfl)
        try simp only [Act.put, List.setIfInBounds_toArray, List.set_cons_zero, List.set_cons_succ]
        refine wpAnyH_take (i := 14) (oi := ⟨some 23, .load 25 (.tmp 22), 25, "law.go:34", #[⟨13, .data⟩, ⟨12, .guard⟩], some (12, true)⟩) (v := ?vz178_14) rfl (by kernel_rfl) (by kernel_rfl) (by kernel_rfl) (fun _ _ _ h => h) (Or.inl ⟨by rfl, ?yz178_14⟩) (by assumption) ?rz178_14
        case yz178_14 => (intro w' hSw; (try dsimp only at hSw); go_simp; try with_reducible rfl)
        try simp only [Act.put, List.setIfInBounds_toArray, List.set_cons_zero, List.set_cons_succ]
        refine wpAnyH_take (i := 15) (oi := ⟨some 24, .call { callee := .builtin .len, args := #[.tmp 23], argTypes := #[25] }, 3, "law.go:34", #[⟨14, .data⟩, ⟨12, .guard⟩], some (12, true)⟩) (v := ?vz179_15) rfl (by kernel_rfl) (by kernel_rfl) (by kernel_rfl) (fun _ _ _ h => h) (Or.inl ⟨by rfl, ?yz179_15⟩) (by assumption) ?rz179_15
        case yz179_15 => (intro w' hSw; (try dsimp only at hSw); go_simp; try with_reducible rfl)
        try simp only [Act.put, List.setIfInBounds_toArray, List.set_cons_zero, List.set_cons_succ]
        by_cases h40 : (cf.length : Int) ≤ 40
        · have d40 : decide ((cf.length : Int) ≤ 40) = true := decide_eq_true h40
          refine wpAnyH_take (i := 16) (oi := ⟨some 25, .binOp .leq 3 (.tmp 24) (.const (Value.int IntKind.i64 40)) 3, 4, "law.go:34", #[⟨15, .data⟩, ⟨12, .guard⟩], some (12, true)⟩) (v := ?vz180_16) rfl (by kernel_rfl) (by kernel_rfl) (by kernel_rfl) (fun _ _ _ h => h) (Or.inl ⟨by rfl, ?yz180_16⟩) (by assumption) ?rz180_16
          case yz180_16 => (intro w' hSw; (try dsimp only at hSw); go_simp; try with_reducible rfl)
          try simp only [Act.put, List.setIfInBounds_toArray, List.set_cons_zero, List.set_cons_succ]
          refine wpAnyH_take (i := 17) (oi := ⟨some 26, .pick (.tmp 21) (.tmp 25) (.const (Value.bool false)), 4, "law.go:34", #[⟨12, .data⟩, ⟨16, .data⟩], none⟩) (v := ?vz181_17) rfl (by kernel_rfl) (by kernel_rfl) (by kernel_rfl) (fun _ _ _ h => h) (Or.inl ⟨by rfl, ?yz181_17⟩) (by assumption) ?rz181_17
          case yz181_17 => (intro w' hSw; (try dsimp only at hSw); go_simp; try with_reducible rfl)
          try simp only [Act.put, List.setIfInBounds_toArray, List.set_cons_zero, List.set_cons_succ]
          refine wpAnyH_take (i := 18) (oi := ⟨some 27, .move (.tmp 26), 4, "law.go:34", #[⟨17, .data⟩, ⟨12, .chain⟩], none⟩) (v := ?vz182_18) rfl (by kernel_rfl) (by kernel_rfl) (by kernel_rfl) (fun _ _ _ h => h) (Or.inl ⟨by rfl, ?yz182_18⟩) (by assumption) ?rz182_18
          case yz182_18 => (intro w' hSw; (try dsimp only at hSw); go_simp; try with_reducible rfl)
          try simp only [Act.put, List.setIfInBounds_toArray, List.set_cons_zero, List.set_cons_succ]
          refine wpAnyH_take (i := 19) (oi := ⟨some 28, .move (.tmp 2), 24, "law.go:34", #[⟨18, .guard⟩], some (18, true)⟩) (v := ?vz183_19) rfl (by kernel_rfl) (by kernel_rfl) (by kernel_rfl) (fun _ _ _ h => h) (Or.inl ⟨by rfl, ?yz183_19⟩) (by assumption) ?rz183_19
          case yz183_19 => (intro w' hSw; (try dsimp only at hSw); go_simp; try with_reducible rfl)
          try simp only [Act.put, List.setIfInBounds_toArray, List.set_cons_zero, List.set_cons_succ]
          refine wpAnyH_ready (rs := [20]) (by kernel_rfl) (by simp) ?_
          refine AllReadyH.cons (o := ⟨some 29, .call { callee := .value (.func 30), args := #[.tmp 28], argTypes := #[24] }, 4, "law.go:34", #[⟨19, .data⟩, ⟨18, .chain⟩, ⟨18, .guard⟩], some (18, true)⟩) rfl (fun K hK => ?_) AllReadyH.nil
          go_simp
          go_at_call 30
          refine (FIX.out _ (by first | exact B3x.out | exact B3x.out.drew | exact below_drewN B3x.out _)).mono ?_
          rintro e x4 ⟨b, rfl, hb, bb⟩
          have B4x := Lib.hid bb
          clear bb
          cases b with
          | false =>
            clear hb
            go_wp2_with fail
            refine hK.out _ _ (SS.out _ B4x.out) (fun hHeld4 => ?_)
            clear hK K hHeld3
            try simp only [Act.put, List.setIfInBounds_toArray, List.set_cons_zero, List.set_cons_succ]
            refine wpAnyH_take (i := 21) (oi := ⟨some 30, .pick (.tmp 27) (.tmp 29) (.const (Value.bool false)), 4, "law.go:34", #[⟨18, .data⟩, ⟨20, .data⟩], none⟩) (v := ?vz184_21) rfl (by kernel_rfl) (by kernel_rfl) (by kernel_rfl) (fun _ _ _ h => h) (Or.inl ⟨by rfl, ?yz184_21⟩) (by assumption) ?rz184_21
            case yz184_21 => (intro w' hSw; (try dsimp only at hSw); go_simp; try with_reducible rfl)
            try simp only [Act.put, List.setIfInBounds_toArray, List.set_cons_zero, List.set_cons_succ]
            refine wpAnyH_take (i := 22) (oi := ⟨some 31, .move (.tmp 30), 4, "law.go:34", #[⟨21, .data⟩, ⟨20, .chain⟩], none⟩) (v := ?vz185_22) rfl (by kernel_rfl) (by kernel_rfl) (by kernel_rfl) (fun _ _ _ h => h) (Or.inl ⟨by rfl, ?yz185_22⟩) (by assumption) ?rz185_22
            case yz185_22 => (intro w' hSw; (try dsimp only at hSw); go_simp; try with_reducible rfl)
            try simp only [Act.put, List.setIfInBounds_toArray, List.set_cons_zero, List.set_cons_succ]
            refine wpAnyH_take (i := 23) (oi := ⟨some 32, .move (.tmp 3), 23, "law.go:34", #[⟨22, .guard⟩], some (22, true)⟩) (v := undef) rfl (by kernel_rfl) (by kernel_rfl) (by kernel_rfl) (fun _ _ _ h => h) (Or.inr ⟨by rfl, rfl⟩) (by assumption) ?_
            try simp only [Act.put, List.setIfInBounds_toArray, List.set_cons_zero, List.set_cons_succ]
            refine wpAnyH_take (i := 24) (oi := ⟨some 33, .call { callee := .value (.func 28), args := #[.tmp 32], argTypes := #[23] }, 4, "law.go:34", #[⟨23, .data⟩, ⟨22, .chain⟩, ⟨22, .guard⟩], some (22, true)⟩) (v := undef) rfl (by kernel_rfl) (by kernel_rfl) (by kernel_rfl) (fun _ _ _ h => h) (Or.inr ⟨by rfl, rfl⟩) (by assumption) ?_
            try simp only [Act.put, List.setIfInBounds_toArray, List.set_cons_zero, List.set_cons_succ]
            refine wpAnyH_take (i := 25) (oi := ⟨some 34, .pick (.tmp 31) (.tmp 33) (.const (Value.bool false)), 4, "law.go:34", #[⟨22, .data⟩, ⟨24, .data⟩], none⟩) (v := ?vz188_25) rfl (by kernel_rfl) (by kernel_rfl) (by kernel_rfl) (fun _ _ _ h => h) (Or.inl ⟨by rfl, ?yz188_25⟩) (by assumption) ?rz188_25
            case yz188_25 => (intro w' hSw; (try dsimp only at hSw); go_simp; try with_reducible rfl)
            try simp only [Act.put, List.setIfInBounds_toArray, List.set_cons_zero, List.set_cons_succ]
            refine wpAnyH_take (i := 26) (oi := ⟨some 35, .move (.tmp 34), 4, "law.go:34", #[⟨25, .data⟩, ⟨24, .chain⟩], none⟩) (v := ?vz189_26) rfl (by kernel_rfl) (by kernel_rfl) (by kernel_rfl) (fun _ _ _ h => h) (Or.inl ⟨by rfl, ?yz189_26⟩) (by assumption) ?rz189_26
            case yz189_26 => (intro w' hSw; (try dsimp only at hSw); go_simp; try with_reducible rfl)
            try simp only [Act.put, List.setIfInBounds_toArray, List.set_cons_zero, List.set_cons_succ]
            refine wpAnyH_take (i := 27) (oi := ⟨some 36, .move (.tmp 0), 23, "law.go:34", #[⟨26, .guard⟩], some (26, true)⟩) (v := undef) rfl (by kernel_rfl) (by kernel_rfl) (by kernel_rfl) (fun _ _ _ h => h) (Or.inr ⟨by rfl, rfl⟩) (by assumption) ?_
            try simp only [Act.put, List.setIfInBounds_toArray, List.set_cons_zero, List.set_cons_succ]
            refine wpAnyH_take (i := 28) (oi := ⟨some 37, .call { callee := .value (.func 29), args := #[.tmp 36], argTypes := #[23] }, 38, "law.go:34", #[⟨27, .data⟩, ⟨26, .chain⟩, ⟨26, .guard⟩], some (26, true)⟩) (v := undef) rfl (by kernel_rfl) (by kernel_rfl) (by kernel_rfl) (fun _ _ _ h => h) (Or.inr ⟨by rfl, rfl⟩) (by assumption) ?_
            try simp only [Act.put, List.setIfInBounds_toArray, List.set_cons_zero, List.set_cons_succ]
            refine wpAnyH_take (i := 29) (oi := ⟨some 38, .binOp .eql 38 (.tmp 37) (.const Value.nilIface) 38, 4, "law.go:34", #[⟨28, .data⟩, ⟨26, .guard⟩], some (26, true)⟩) (v := undef) rfl (by kernel_rfl) (by kernel_rfl) (by kernel_rfl) (fun _ _ _ h => h) (Or.inr ⟨by rfl, rfl⟩) (by assumption) ?_
            try simp only [Act.put, List.setIfInBounds_toArray, List.set_cons_zero, List.set_cons_succ]
            refine wpAnyH_take (i := 30) (oi := ⟨some 39, .pick (.tmp 35) (.tmp 38) (.const (Value.bool false)), 4, "law.go:34", #[⟨26, .data⟩, ⟨29, .data⟩], none⟩) (v := ?vz193_30) rfl (by kernel_rfl) (by kernel_rfl) (by kernel_rfl) (fun _ _ _ h => h) (Or.inl ⟨by rfl, ?yz193_30⟩) (by assumption) ?rz193_30
            case yz193_30 => (intro w' hSw; (try dsimp only at hSw); go_simp; try with_reducible rfl)
            try simp only [Act.put, List.setIfInBounds_toArray, List.set_cons_zero, List.set_cons_succ]
            refine wpAnyH_take (i := 31) (oi := ⟨some 40, .move (.tmp 39), 4, "law.go:34", #[⟨30, .data⟩, ⟨28, .chain⟩], none⟩) (v := ?vz194_31) rfl (by kernel_rfl) (by kernel_rfl) (by kernel_rfl) (fun _ _ _ h => h) (Or.inl ⟨by rfl, ?yz194_31⟩) (by assumption) ?rz194_31
            case yz194_31 => (intro w' hSw; (try dsimp only at hSw); go_simp; try with_reducible rfl)
            try simp only [Act.put, List.setIfInBounds_toArray, List.set_cons_zero, List.set_cons_succ]
            refine wpAnyH_take (i := 32) (oi := ⟨some 41, .fieldAddr 27 (.tmp 5) 0, 0, "law.go:34", #[⟨31, .guard⟩], some (31, true)⟩) (v := undef) rfl (by kernel_rfl) (by kernel_rfl) (by kernel_rfl) (fun _ _ _ h => h) (Or.inr ⟨by rfl, rfl⟩) (by assumption) ?_
            try simp only [Act.put, List.setIfInBounds_toArray, List.set_cons_zero, List.set_cons_succ]
            refine wpAnyH_take (i := 33) (oi := ⟨some 42, .load 23 (.tmp 41), 23, "law.go:34", #[⟨32, .data⟩, ⟨31, .guard⟩], some (31, true)⟩) (v := undef) rfl (by kernel_rfl) (by kernel_rfl) (by kernel_rfl) (fun _ _ _ h => h) (Or.inr ⟨by rfl, rfl⟩) (by assumption) ?_
            try simp only [Act.put, List.setIfInBounds_toArray, List.set_cons_zero, List.set_cons_succ]
            refine wpAnyH_take (i := 34) (oi := ⟨some 43, .call { callee := .value (.func 29), args := #[.tmp 42], argTypes := #[23] }, 38, "law.go:34", #[⟨33, .data⟩, ⟨31, .chain⟩, ⟨31, .guard⟩], some (31, true)⟩) (v := undef) rfl (by kernel_rfl) (by kernel_rfl) (by kernel_rfl) (fun _ _ _ h => h) (Or.inr ⟨by rfl, rfl⟩) (by assumption) ?_
            try simp only [Act.put, List.setIfInBounds_toArray, List.set_cons_zero, List.set_cons_succ]
            refine wpAnyH_take (i := 35) (oi := ⟨some 44, .binOp .eql 38 (.tmp 43) (.const Value.nilIface) 38, 4, "law.go:34", #[⟨34, .data⟩, ⟨31, .guard⟩], some (31, true)⟩) (v := undef) rfl (by kernel_rfl) (by kernel_rfl) (by kernel_rfl) (fun _ _ _ h => h) (Or.inr ⟨by rfl, rfl⟩) (by assumption) ?_
            try simp only [Act.put, List.setIfInBounds_toArray, List.set_cons_zero, List.set_cons_succ]
            refine wpAnyH_take (i := 36) (oi := ⟨some 45, .pick (.tmp 40) (.tmp 44) (.const (Value.bool false)), 4, "law.go:34", #[⟨31, .data⟩, ⟨35, .data⟩], none⟩) (v := ?vz199_36) rfl (by kernel_rfl) (by kernel_rfl) (by kernel_rfl) (fun _ _ _ h => h) (Or.inl ⟨by rfl, ?yz199_36⟩) (by assumption) ?rz199_36
            case yz199_36 => (intro w' hSw; (try dsimp only at hSw); go_simp; try with_reducible rfl)
            try simp only [Act.put, List.setIfInBounds_toArray, List.set_cons_zero, List.set_cons_succ]
            refine wpAnyH_take (i := 37) (oi := ⟨some 46, .move (.tmp 45), 4, "law.go:34", #[⟨36, .data⟩, ⟨34, .chain⟩], none⟩) (v := ?vz200_37) rfl (by kernel_rfl) (by kernel_rfl) (by kernel_rfl) (fun _ _ _ h => h) (Or.inl ⟨by rfl, ?yz200_37⟩) (by assumption) ?rz200_37
            case yz200_37 => (intro w' hSw; (try dsimp only at hSw); go_simp; try with_reducible rfl)
            try simp only [Act.put, List.setIfInBounds_toArray, List.set_cons_zero, List.set_cons_succ]
            refine wpAnyH_take (i := 38) (oi := ⟨some 47, .move (.tmp 2), 24, "law.go:34", #[⟨37, .guard⟩], some (37, true)⟩) (v := undef) rfl (by kernel_rfl) (by kernel_rfl) (by kernel_rfl) (fun _ _ _ h => h) (Or.inr ⟨by rfl, rfl⟩) (by assumption) ?_
            try simp only [Act.put, List.setIfInBounds_toArray, List.set_cons_zero, List.set_cons_succ]
            refine wpAnyH_take (i := 39) (oi := ⟨some 48, .call { callee := .value (.func 31), args := #[.tmp 47], argTypes := #[24] }, 38, "law.go:34", #[⟨38, .data⟩, ⟨37, .chain⟩, ⟨37, .guard⟩], some (37, true)⟩) (v := undef) rfl (by kernel_rfl) (by kernel_rfl) (by kernel_rfl) (fun _ _ _ h => h) (Or.inr ⟨by rfl, rfl⟩) (by assumption) ?_
            try simp only [Act.put, List.setIfInBounds_toArray, List.set_cons_zero, List.set_cons_succ]
            refine wpAnyH_take (i := 40) (oi := ⟨some 49, .binOp .eql 38 (.tmp 48) (.const Value.nilIface) 38, 4, "law.go:34", #[⟨39, .data⟩, ⟨37, .guard⟩], some (37, true)⟩) (v := undef) rfl (by kernel_rfl) (by kernel_rfl) (by kernel_rfl) (fun _ _ _ h => h) (Or.inr ⟨by rfl, rfl⟩) (by assumption) ?_
            try simp only [Act.put, List.setIfInBounds_toArray, List.set_cons_zero, List.set_cons_succ]
            refine wpAnyH_take (i := 41) (oi := ⟨some 50, .pick (.tmp 46) (.tmp 49) (.const (Value.bool false)), 4, "law.go:34", #[⟨37, .data⟩, ⟨40, .data⟩], none⟩) (v := ?vz204_41) rfl (by kernel_rfl) (by kernel_rfl) (by kernel_rfl) (fun _ _ _ h => h) (Or.inl ⟨by rfl, ?yz204_41⟩) (by assumption) ?rz204_41
            case yz204_41 => (intro w' hSw; (try dsimp only at hSw); go_simp; try with_reducible rfl)
            try simp only [Act.put, List.setIfInBounds_toArray, List.set_cons_zero, List.set_cons_succ]
            refine wpAnyH_take (i := 42) (oi := ⟨some 51, .move (.tmp 50), 4, "law.go:34", #[⟨41, .data⟩, ⟨39, .chain⟩], none⟩) (v := ?vz205_42) rfl (by kernel_rfl) (by kernel_rfl) (by kernel_rfl) (fun _ _ _ h => h) (Or.inl ⟨by rfl, ?yz205_42⟩) (by assumption) ?rz205_42
            case yz205_42 => (intro w' hSw; (try dsimp only at hSw); go_simp; try with_reducible rfl)
            try simp only [Act.put, List.setIfInBounds_toArray, List.set_cons_zero, List.set_cons_succ]
            refine wpAnyH_take (i := 43) (oi := ⟨some 52, .move (.tmp 3), 23, "law.go:34", #[⟨42, .guard⟩], some (42, true)⟩) (v := undef) rfl (by kernel_rfl) (by kernel_rfl) (by kernel_rfl) (fun _ _ _ h => h) (Or.inr ⟨by rfl, rfl⟩) (by assumption) ?_
            try simp only [Act.put, List.setIfInBounds_toArray, List.set_cons_zero, List.set_cons_succ]
            refine wpAnyH_take (i := 44) (oi := ⟨some 53, .call { callee := .value (.func 29), args := #[.tmp 52], argTypes := #[23] }, 38, "law.go:34", #[⟨43, .data⟩, ⟨42, .chain⟩, ⟨42, .guard⟩], some (42, true)⟩) (v := undef) rfl (by kernel_rfl) (by kernel_rfl) (by kernel_rfl) (fun _ _ _ h => h) (Or.inr ⟨by rfl, rfl⟩) (by assumption) ?_
            try simp only [Act.put, List.setIfInBounds_toArray, List.set_cons_zero, List.set_cons_succ]
            refine wpAnyH_take (i := 45) (oi := ⟨some 54, .binOp .eql 38 (.tmp 53) (.const Value.nilIface) 38, 4, "law.go:34", #[⟨44, .data⟩, ⟨42, .guard⟩], some (42, true)⟩) (v := undef) rfl (by kernel_rfl) (by kernel_rfl) (by kernel_rfl) (fun _ _ _ h => h) (Or.inr ⟨by rfl, rfl⟩) (by assumption) ?_
            try simp only [Act.put, List.setIfInBounds_toArray, List.set_cons_zero, List.set_cons_succ]
            refine wpAnyH_take (i := 46) (oi := ⟨some 55, .pick (.tmp 51) (.tmp 54) (.const (Value.bool false)), 4, "law.go:34", #[⟨42, .data⟩, ⟨45, .data⟩], none⟩) (v := ?vz209_46) rfl (by kernel_rfl) (by kernel_rfl) (by kernel_rfl) (fun _ _ _ h => h) (Or.inl ⟨by rfl, ?yz209_46⟩) (by assumption) ?rz209_46
            case yz209_46 => (intro w' hSw; (try dsimp only at hSw); go_simp; try with_reducible rfl)
            try simp only [Act.put, List.setIfInBounds_toArray, List.set_cons_zero, List.set_cons_succ]
            refine wpAnyH_take (i := 47) (oi := ⟨some 56, .move (.tmp 55), 4, "law.go:34", #[⟨46, .data⟩, ⟨44, .chain⟩], none⟩) (v := ?vz210_47) rfl (by kernel_rfl) (by kernel_rfl) (by kernel_rfl) (fun _ _ _ h => h) (Or.inl ⟨by rfl, ?yz210_47⟩) (by assumption) ?rz210_47
            case yz210_47 => (intro w' hSw; (try dsimp only at hSw); go_simp; try with_reducible rfl)
            try simp only [Act.put, List.setIfInBounds_toArray, List.set_cons_zero, List.set_cons_succ]
            refine wpAnyH_take (i := 48) (oi := ⟨some 57, .fieldAddr 27 (.tmp 5) 1, 0, "law.go:34", #[⟨47, .guard⟩], some (47, true)⟩) (v := undef) rfl (by kernel_rfl) (by kernel_rfl) (by kernel_rfl) (fun _ _ _ h => h) (Or.inr ⟨by rfl, rfl⟩) (by assumption) ?_
            try simp only [Act.put, List.setIfInBounds_toArray, List.set_cons_zero, List.set_cons_succ]
            refine wpAnyH_take (i := 49) (oi := ⟨some 58, .load 24 (.tmp 57), 24, "law.go:34", #[⟨48, .data⟩, ⟨47, .guard⟩], some (47, true)⟩) (v := undef) rfl (by kernel_rfl) (by kernel_rfl) (by kernel_rfl) (fun _ _ _ h => h) (Or.inr ⟨by rfl, rfl⟩) (by assumption) ?_
            try simp only [Act.put, List.setIfInBounds_toArray, List.set_cons_zero, List.set_cons_succ]
            refine wpAnyH_take (i := 50) (oi := ⟨some 59, .call { callee := .value (.func 31), args := #[.tmp 58], argTypes := #[24] }, 38, "law.go:34", #[⟨49, .data⟩, ⟨47, .chain⟩, ⟨47, .guard⟩], some (47, true)⟩) (v := undef) rfl (by kernel_rfl) (by kernel_rfl) (by kernel_rfl) (fun _ _ _ h => h) (Or.inr ⟨by rfl, rfl⟩) (by assumption) ?_
            try simp only [Act.put, List.setIfInBounds_toArray, List.set_cons_zero, List.set_cons_succ]
            refine wpAnyH_take (i := 51) (oi := ⟨some 60, .binOp .eql 38 (.tmp 59) (.const Value.nilIface) 38, 4, "law.go:34", #[⟨50, .data⟩, ⟨47, .guard⟩], some (47, true)⟩) (v := undef) rfl (by kernel_rfl) (by kernel_rfl) (by kernel_rfl) (fun _ _ _ h => h) (Or.inr ⟨by rfl, rfl⟩) (by assumption) ?_
            try simp only [Act.put, List.setIfInBounds_toArray, List.set_cons_zero, List.set_cons_succ]
            refine wpAnyH_take (i := 52) (oi := ⟨some 61, .pick (.tmp 56) (.tmp 60) (.const (Value.bool false)), 4, "law.go:34", #[⟨47, .data⟩, ⟨51, .data⟩], none⟩) (v := ?vz215_52) rfl (by kernel_rfl) (by kernel_rfl) (by kernel_rfl) (fun _ _ _ h => h) (Or.inl ⟨by rfl, ?yz215_52⟩) (by assumption) ?rz215_52
            case yz215_52 => (intro w' hSw; (try dsimp only at hSw); go_simp; try with_reducible rfl)
            try simp only [Act.put, List.setIfInBounds_toArray, List.set_cons_zero, List.set_cons_succ]
            refine wpAnyH_take (i := 53) (oi := ⟨some 62, .move (.tmp 61), 4, "law.go:34", #[⟨52, .data⟩, ⟨50, .chain⟩], none⟩) (v := ?vz216_53) rfl (by kernel_rfl) (by kernel_rfl) (by kernel_rfl) (fun _ _ _ h => h) (Or.inl ⟨by rfl, ?yz216_53⟩) (by assumption) ?rz216_53
            case yz216_53 => (intro w' hSw; (try dsimp only at hSw); go_simp; try with_reducible rfl)
            try simp only [Act.put, List.setIfInBounds_toArray, List.set_cons_zero, List.set_cons_succ]
            refine wpAnyH_take (i := 54) (oi := ⟨some 63, .fieldAddr 27 (.tmp 5) 1, 0, "law.go:34", #[⟨53, .guard⟩], some (53, true)⟩) (v := undef) rfl (by kernel_rfl) (by kernel_rfl) (by kernel_rfl) (fun _ _ _ h => h) (Or.inr ⟨by rfl, rfl⟩) (by assumption) ?_
            try simp only [Act.put, List.setIfInBounds_toArray, List.set_cons_zero, List.set_cons_succ]
            refine wpAnyH_take (i := 55) (oi := ⟨some 64, .load 24 (.tmp 63), 24, "law.go:34", #[⟨54, .data⟩, ⟨53, .guard⟩], some (53, true)⟩) (v := undef) rfl (by kernel_rfl) (by kernel_rfl) (by kernel_rfl) (fun _ _ _ h => h) (Or.inr ⟨by rfl, rfl⟩) (by assumption) ?_
            try simp only [Act.put, List.setIfInBounds_toArray, List.set_cons_zero, List.set_cons_succ]
            refine wpAnyH_take (i := 57) (oi := ⟨some 66, .fieldAddr 27 (.tmp 5) 2, 0, "law.go:34", #[⟨53, .guard⟩], some (53, true)⟩) (v := undef) rfl (by kernel_rfl) (by kernel_rfl) (by kernel_rfl) (fun _ _ _ h => h) (Or.inr ⟨by rfl, rfl⟩) (by assumption) ?_
            try simp only [Act.put, List.setIfInBounds_toArray, List.set_cons_zero, List.set_cons_succ]
            refine wpAnyH_take (i := 58) (oi := ⟨some 67, .load 25 (.tmp 66), 25, "law.go:34", #[⟨57, .data⟩, ⟨53, .guard⟩], some (53, true)⟩) (v := undef) rfl (by kernel_rfl) (by kernel_rfl) (by kernel_rfl) (fun _ _ _ h => h) (Or.inr ⟨by rfl, rfl⟩) (by assumption) ?_
            try simp only [Act.put, List.setIfInBounds_toArray, List.set_cons_zero, List.set_cons_succ]
            refine wpAnyH_take (i := 56) (oi := ⟨some 65, .call { callee := .value (.func 32), args := #[.tmp 64], argTypes := #[24] }, 25, "law.go:34", #[⟨55, .data⟩, ⟨53, .chain⟩, ⟨53, .guard⟩], some (53, true)⟩) (v := undef) rfl (by kernel_rfl) (by kernel_rfl) (by kernel_rfl) (fun _ _ _ h => h) (Or.inr ⟨by rfl, rfl⟩) (by assumption) ?_
            try simp only [Act.put, List.setIfInBounds_toArray, List.set_cons_zero, List.set_cons_succ]
            refine wpAnyH_take (i := 59) (oi := ⟨some 68, .call { callee := .value (.func 14), args := #[.tmp 65, .tmp 67], argTypes := #[25, 25] }, 4, "law.go:34", #[⟨56, .data⟩, ⟨58, .data⟩, ⟨56, .chain⟩, ⟨53, .guard⟩], some (53, true)⟩) (v := undef) rfl (by kernel_rfl) (by kernel_rfl) (by kernel_rfl) (fun _ _ _ h => h) (Or.inr ⟨by rfl, rfl⟩) (by assumption) ?_
            try simp only [Act.put, List.setIfInBounds_toArray, List.set_cons_zero, List.set_cons_succ]
            refine wpAnyH_take (i := 60) (oi := ⟨some 69, .pick (.tmp 62) (.tmp 68) (.const (Value.bool false)), 4, "law.go:34", #[⟨53, .data⟩, ⟨59, .data⟩], none⟩) (v := ?vz223_60) rfl (by kernel_rfl) (by kernel_rfl) (by kernel_rfl) (fun _ _ _ h => h) (Or.inl ⟨by rfl, ?yz223_60⟩) (by assumption) ?rz223_60
            case yz223_60 => (intro w' hSw; (try dsimp only at hSw); go_simp; try with_reducible rfl)
            try simp only [Act.put, List.setIfInBounds_toArray, List.set_cons_zero, List.set_cons_succ]
            refine wpAnyH_take (i := 61) (oi := ⟨some 8, .assign (.tmp 69), 4, "law.go:34", #[⟨60, .data⟩, ⟨59, .chain⟩, ⟨0, .phase⟩, ⟨1, .phase⟩, ⟨2, .phase⟩, ⟨3, .phase⟩, ⟨4, .phase⟩, ⟨5, .phase⟩, ⟨6, .phase⟩, ⟨7, .phase⟩, ⟨8, .phase⟩, ⟨9, .phase⟩, ⟨10, .phase⟩, ⟨11, .phase⟩, ⟨12, .phase⟩, ⟨13, .phase⟩, ⟨14, .phase⟩, ⟨15, .phase⟩, ⟨16, .phase⟩, ⟨17, .phase⟩, ⟨18, .phase⟩, ⟨19, .phase⟩, ⟨20, .phase⟩, ⟨21, .phase⟩, ⟨22, .phase⟩, ⟨23, .phase⟩, ⟨24, .phase⟩, ⟨25, .phase⟩, ⟨26, .phase⟩, ⟨27, .phase⟩, ⟨28, .phase⟩, ⟨29, .phase⟩, ⟨30, .phase⟩, ⟨31, .phase⟩, ⟨32, .phase⟩, ⟨33, .phase⟩, ⟨34, .phase⟩, ⟨35, .phase⟩, ⟨36, .phase⟩, ⟨37, .phase⟩, ⟨38, .phase⟩, ⟨39, .phase⟩, ⟨40, .phase⟩, ⟨41, .phase⟩, ⟨42, .phase⟩, ⟨43, .phase⟩, ⟨44, .phase⟩, ⟨45, .phase⟩, ⟨46, .phase⟩, ⟨47, .phase⟩, ⟨48, .phase⟩, ⟨49, .phase⟩, ⟨50, .phase⟩, ⟨51, .phase⟩, ⟨52, .phase⟩, ⟨53, .phase⟩, ⟨54, .phase⟩, ⟨55, .phase⟩, ⟨56, .phase⟩, ⟨57, .phase⟩, ⟨58, .phase⟩, ⟨59, .phase⟩, ⟨60, .phase⟩], none⟩) (v := ?vz224_61) rfl (by kernel_rfl) (by kernel_rfl) (by kernel_rfl) (fun _ _ _ h => h) (Or.inl ⟨by rfl, ?yz224_61⟩) (by assumption) ?rz224_61
            case yz224_61 => (intro w' hSw; (try dsimp only at hSw); go_simp; try with_reducible rfl)
            try simp only [Act.put, List.setIfInBounds_toArray, List.set_cons_zero, List.set_cons_succ]
            refine wpAnyH_done (by kernel_rfl) ?_ _
            go_wp2_with fail
            go_ret
            exact ⟨false, rfl, (fun h => by cases h), HB0.out.trans (Below.mono (by first | exact B4x.out | exact B4x.out.drew | exact below_drewN B4x.out _) HB0.out.size)⟩
          | true =>
            have H4 := Lib.hid (hb rfl)
            clear hb
            go_wp2_with fail
            refine hK.out _ _ (SS.out _ B4x.out) (fun hHeld4 => ?_)
            clear hK K hHeld3
            try simp only [Act.put, List.setIfInBounds_toArray, List.set_cons_zero, List.set_cons_succ]
            refine wpAnyH_take (i := 21) (oi := ⟨some 30, .pick (.tmp 27) (.tmp 29) (.const (Value.bool false)), 4, "law.go:34", #[⟨18, .data⟩, ⟨20, .data⟩], none⟩) (v := ?vz225_21) rfl (by kernel_rfl) (by kernel_rfl) (by kernel_rfl) (fun _ _ _ h => h) (Or.inl ⟨by rfl, ?yz225_21⟩) (by assumption) ?rz225_21
            case yz225_21 => (intro w' hSw; (try dsimp only at hSw); go_simp; try with_reducible rfl)
            try simp only [Act.put, List.setIfInBounds_toArray, List.set_cons_zero, List.set_cons_succ]
            refine wpAnyH_take (i := 22) (oi := ⟨some 31, .move (.tmp 30), 4, "law.go:34", #[⟨21, .data⟩, ⟨20, .chain⟩], none⟩) (v := ?vz226_22) rfl (by kernel_rfl) (by kernel_rfl) (by kernel_rfl) (fun _ _ _ h => h) (Or.inl ⟨by rfl, ?yz226_22⟩) (by assumption) ?rz226_22
            case yz226_22 => (intro w' hSw; (try dsimp only at hSw); go_simp; try with_reducible rfl)
            try simp only [Act.put, List.setIfInBounds_toArray, List.set_cons_zero, List.set_cons_succ]
            refine wpAnyH_take (i := 23) (oi := ⟨some 32, .move (.tmp 3), 23, "law.go:34", #[⟨22, .guard⟩], some (22, true)⟩) (v := ?vz227_23) rfl (by kernel_rfl) (by kernel_rfl) (by kernel_rfl) (fun _ _ _ h => h) (Or.inl ⟨by rfl, ?yz227_23⟩) (by assumption) ?rz227_23
            case yz227_23 => (intro w' hSw; (try dsimp only at hSw); go_simp; try with_reducible rfl)
            try simp only [Act.put, List.setIfInBounds_toArray, List.set_cons_zero, List.set_cons_succ]
            refine wpAnyH_ready (rs := [24]) (by kernel_rfl) (by simp) ?_
            refine AllReadyH.cons (o := ⟨some 33, .call { callee := .value (.func 28), args := #[.tmp 32], argTypes := #[23] }, 4, "law.go:34", #[⟨23, .data⟩, ⟨22, .chain⟩, ⟨22, .guard⟩], some (22, true)⟩) rfl (fun K hK => ?_) AllReadyH.nil
            go_simp
            go_at_call 28
            refine (FWK.out _ (by first | exact B4x.out | exact B4x.out.drew | exact below_drewN B4x.out _)).mono ?_
            rintro e x5 ⟨b, rfl, hb, bb⟩
            have B5x := Lib.hid bb
            clear bb
            cases b with
            | false =>
              clear hb
              go_wp2_with fail
              refine hK.out _ _ (SS.out _ B5x.out) (fun hHeld5 => ?_)
              clear hK K hHeld4
              try simp only [Act.put, List.setIfInBounds_toArray, List.set_cons_zero, List.set_cons_succ]
              refine wpAnyH_take (i := 25) (oi := ⟨some 34, .pick (.tmp 31) (.tmp 33) (.const (Value.bool false)), 4, "law.go:34", #[⟨22, .data⟩, ⟨24, .data⟩], none⟩) (v := ?vz228_25) rfl (by kernel_rfl) (by kernel_rfl) (by kernel_rfl) (fun _ _ _ h => h) (Or.inl ⟨by rfl, ?yz228_25⟩) (by assumption) ?rz228_25
              case yz228_25 => (intro w' hSw; (try dsimp only at hSw); go_simp; try with_reducible rfl)
              try simp only [Act.put, List.setIfInBounds_toArray, List.set_cons_zero, List.set_cons_succ]
              refine wpAnyH_take (i := 26) (oi := ⟨some 35, .move (.tmp 34), 4, "law.go:34", #[⟨25, .data⟩, ⟨24, .chain⟩], none⟩) (v := ?vz229_26) rfl (by kernel_rfl) (by kernel_rfl) (by kernel_rfl) (fun _ _ _ h => h) (Or.inl ⟨by rfl, ?yz229_26⟩) (by assumption) ?rz229_26
              case yz229_26 => (intro w' hSw; (try dsimp only at hSw); go_simp; try with_reducible rfl)
              try simp only [Act.put, List.setIfInBounds_toArray, List.set_cons_zero, List.set_cons_succ]
              refine wpAnyH_take (i := 27) (oi := ⟨some 36, .move (.tmp 0), 23, "law.go:34", #[⟨26, .guard⟩], some (26, true)⟩) (v := undef) rfl (by kernel_rfl) (by kernel_rfl) (by kernel_rfl) (fun _ _ _ h => h) (Or.inr ⟨by rfl, rfl⟩) (by assumption) ?_
              try simp only [Act.put, List.setIfInBounds_toArray, List.set_cons_zero, List.set_cons_succ]
              refine wpAnyH_take (i := 28) (oi := ⟨some 37, .call { callee := .value (.func 29), args := #[.tmp 36], argTypes := #[23] }, 38, "law.go:34", #[⟨27, .data⟩, ⟨26, .chain⟩, ⟨26, .guard⟩], some (26, true)⟩) (v := undef) rfl (by kernel_rfl) (by kernel_rfl) (by kernel_rfl) (fun _ _ _ h => h) (Or.inr ⟨by rfl, rfl⟩) (by assumption) ?_
              try simp only [Act.put, List.setIfInBounds_toArray, List.set_cons_zero, List.set_cons_succ]
              refine wpAnyH_take (i := 29) (oi := ⟨some 38, .binOp .eql 38 (.tmp 37) (.const Value.nilIface) 38, 4, "law.go:34", #[⟨28, .data⟩, ⟨26, .guard⟩], some (26, true)⟩) (v := undef) rfl (by kernel_rfl) (by kernel_rfl) (by kernel_rfl) (fun _ _ _ h => h) (Or.inr ⟨by rfl, rfl⟩) (by assumption) ?_
              try simp only [Act.put, List.setIfInBounds_toArray, List.set_cons_zero, List.set_cons_succ]
              refine wpAnyH_take (i := 30) (oi := ⟨some 39, .pick (.tmp 35) (.tmp 38) (.const (Value.bool false)), 4, "law.go:34", #[⟨26, .data⟩, ⟨29, .data⟩], none⟩) (v := ?vz233_30) rfl (by kernel_rfl) (by kernel_rfl) (by kernel_rfl) (fun _ _ _ h => h) (Or.inl ⟨by rfl, ?yz233_30⟩) (by assumption) ?rz233_30
              case yz233_30 => (intro w' hSw; (try dsimp only at hSw); go_simp; try with_reducible rfl)
              try simp only [Act.put, List.setIfInBounds_toArray, List.set_cons_zero, List.set_cons_succ]
              refine wpAnyH_take (i := 31) (oi := ⟨some 40, .move (.tmp 39), 4, "law.go:34", #[⟨30, .data⟩, ⟨28, .chain⟩], none⟩) (v := ?vz234_31) rfl (by kernel_rfl) (by kernel_rfl) (by kernel_rfl) (fun _ _ _ h => h) (Or.inl ⟨by rfl, ?yz234_31⟩) (by assumption) ?rz234_31
              case yz234_31 => (intro w' hSw; (try dsimp only at hSw); go_simp; try with_reducible rfl)
              try simp only [Act.put, List.setIfInBounds_toArray, List.set_cons_zero, List.set_cons_succ]
              refine wpAnyH_take (i := 32) (oi := ⟨some 41, .fieldAddr 27 (.tmp 5) 0, 0, "law.go:34", #[⟨31, .guard⟩], some (31, true)⟩) (v := undef) rfl (by kernel_rfl) (by kernel_rfl) (by kernel_rfl) (fun _ _ _ h => h) (Or.inr ⟨by rfl, rfl⟩) (by assumption) ?_
              try simp only [Act.put, List.setIfInBounds_toArray, List.set_cons_zero, List.set_cons_succ]
              refine wpAnyH_take (i := 33) (oi := ⟨some 42, .load 23 (.tmp 41), 23, "law.go:34", #[⟨32, .data⟩, ⟨31, .guard⟩], some (31, true)⟩) (v := undef) rfl (by kernel_rfl) (by kernel_rfl) (by kernel_rfl) (fun _ _ _ h => h) (Or.inr ⟨by rfl, rfl⟩) (by assumption) ?_
              try simp only [Act.put, List.setIfInBounds_toArray, List.set_cons_zero, List.set_cons_succ]
              refine wpAnyH_take (i := 34) (oi := ⟨some 43, .call { callee := .value (.func 29), args := #[.tmp 42], argTypes := #[23] }, 38, "law.go:34", #[⟨33, .data⟩, ⟨31, .chain⟩, ⟨31, .guard⟩], some (31, true)⟩) (v := undef) rfl (by kernel_rfl) (by kernel_rfl) (by kernel_rfl) (fun _ _ _ h => h) (Or.inr ⟨by rfl, rfl⟩) (by assumption) ?_
              try simp only [Act.put, List.setIfInBounds_toArray, List.set_cons_zero, List.set_cons_succ]
              refine wpAnyH_take (i := 35) (oi := ⟨some 44, .binOp .eql 38 (.tmp 43) (.const Value.nilIface) 38, 4, "law.go:34", #[⟨34, .data⟩, ⟨31, .guard⟩], some (31, true)⟩) (v := undef) rfl (by kernel_rfl) (by kernel_rfl) (by kernel_rfl) (fun _ _ _ h => h) (Or.inr ⟨by rfl, rfl⟩) (by assumption) ?_
              try simp only [Act.put, List.setIfInBounds_toArray, List.set_cons_zero, List.set_cons_succ]
              refine wpAnyH_take (i := 36) (oi := ⟨some 45, .pick (.tmp 40) (.tmp 44) (.const (Value.bool false)), 4, "law.go:34", #[⟨31, .data⟩, ⟨35, .data⟩], none⟩) (v := ?vz239_36) rfl (by kernel_rfl) (by kernel_rfl) (by kernel_rfl) (fun _ _ _ h => h) (Or.inl ⟨by rfl, ?yz239_36⟩) (by assumption) ?rz239_36
              case yz239_36 => (intro w' hSw; (try dsimp only at hSw); go_simp; try with_reducible rfl)
              try simp only [Act.put, List.setIfInBounds_toArray, List.set_cons_zero, List.set_cons_succ]
              refine wpAnyH_take (i := 37) (oi := ⟨some 46, .move (.tmp 45), 4, "law.go:34", #[⟨36, .data⟩, ⟨34, .chain⟩], none⟩) (v := ?vz240_37) rfl (by kernel_rfl) (by kernel_rfl) (by kernel_rfl) (fun _ _ _ h => h) (Or.inl ⟨by rfl, ?yz240_37⟩) (by assumption) ?rz240_37
              case yz240_37 => (intro w' hSw; (try dsimp only at hSw); go_simp; try with_reducible rfl)
              try simp only [Act.put, List.setIfInBounds_toArray, List.set_cons_zero, List.set_cons_succ]
              refine wpAnyH_take (i := 38) (oi := ⟨some 47, .move (.tmp 2), 24, "law.go:34", #[⟨37, .guard⟩], some (37, true)⟩) (v := undef) rfl (by kernel_rfl) (by kernel_rfl) (by kernel_rfl) (fun _ _ _ h => h) (Or.inr ⟨by rfl, rfl⟩) (by assumption) ?_
              try simp only [Act.put, List.setIfInBounds_toArray, List.set_cons_zero, List.set_cons_succ]
              refine wpAnyH_take (i := 39) (oi := ⟨some 48, .call { callee := .value (.func 31), args := #[.tmp 47], argTypes := #[24] }, 38, "law.go:34", #[⟨38, .data⟩, ⟨37, .chain⟩, ⟨37, .guard⟩], some (37, true)⟩) (v := undef) rfl (by kernel_rfl) (by kernel_rfl) (by kernel_rfl) (fun _ _ _ h => h) (Or.inr ⟨by rfl, rfl⟩) (by assumption) ?_
              try simp only [Act.put, List.setIfInBounds_toArray, List.set_cons_zero, List.set_cons_succ]
              refine wpAnyH_take (i := 40) (oi := ⟨some 49, .binOp .eql 38 (.tmp 48) (.const Value.nilIface) 38, 4, "law.go:34", #[⟨39, .data⟩, ⟨37, .guard⟩], some (37, true)⟩) (v := undef) rfl (by kernel_rfl) (by kernel_rfl) (by kernel_rfl) (fun _ _ _ h => h) (Or.inr ⟨by rfl, rfl⟩) (by assumption) ?_
              try simp only [Act.put, List.setIfInBounds_toArray, List.set_cons_zero, List.set_cons_succ]
              refine wpAnyH_take (i := 41) (oi := ⟨some 50, .pick (.tmp 46) (.tmp 49) (.const (Value.bool false)), 4, "law.go:34", #[⟨37, .data⟩, ⟨40, .data⟩], none⟩) (v := ?vz244_41) rfl (by kernel_rfl) (by kernel_rfl) (by kernel_rfl) (fun _ _ _ h => h) (Or.inl ⟨by rfl, ?yz244_41⟩) (by assumption) ?rz244_41
              case yz244_41 => (intro w' hSw; (try dsimp only at hSw); go_simp; try with_reducible rfl)
              try simp only [Act.put, List.setIfInBounds_toArray, List.set_cons_zero, List.set_cons_succ]
              refine wpAnyH_take (i := 42) (oi := ⟨some 51, .move (.tmp 50), 4, "law.go:34", #[⟨41, .data⟩, ⟨39, .chain⟩], none⟩) (v := ?vz245_42) rfl (by kernel_rfl) (by kernel_rfl) (by kernel_rfl) (fun _ _ _ h => h) (Or.inl ⟨by rfl, ?yz245_42⟩) (by assumption) ?rz245_42
              case yz245_42 => (intro w' hSw; (try dsimp only at hSw); go_simp; try with_reducible rfl)
              try simp only [Act.put, List.setIfInBounds_toArray, List.set_cons_zero, List.set_cons_succ]
              refine wpAnyH_take (i := 43) (oi := ⟨some 52, .move (.tmp 3), 23, "law.go:34", #[⟨42, .guard⟩], some (42, true)⟩) (v := undef) rfl (by kernel_rfl) (by kernel_rfl) (by kernel_rfl) (fun _ _ _ h => h) (Or.inr ⟨by rfl, rfl⟩) (by assumption) ?_
              try simp only [Act.put, List.setIfInBounds_toArray, List.set_cons_zero, List.set_cons_succ]
              refine wpAnyH_take (i := 44) (oi := ⟨some 53, .call { callee := .value (.func 29), args := #[.tmp 52], argTypes := #[23] }, 38, "law.go:34", #[⟨43, .data⟩, ⟨42, .chain⟩, ⟨42, .guard⟩], some (42, true)⟩) (v := undef) rfl (by kernel_rfl) (by kernel_rfl) (by kernel_rfl) (fun _ _ _ h => h) (Or.inr ⟨by rfl, rfl⟩) (by assumption) ?_
              try simp only [Act.put, List.setIfInBounds_toArray, List.set_cons_zero, List.set_cons_succ]
              refine wpAnyH_take (i := 45) (oi := ⟨some 54, .binOp .eql 38 (.tmp 53) (.const Value.nilIface) 38, 4, "law.go:34", #[⟨44, .data⟩, ⟨42, .guard⟩], some (42, true)⟩) (v := undef) rfl (by kernel_rfl) (by kernel_rfl) (by kernel_rfl) (fun _ _ _ h => h) (Or.inr ⟨by rfl, rfl⟩) (by assumption) ?_
              try simp only [Act.put, List.setIfInBounds_toArray, List.set_cons_zero, List.set_cons_succ]
              refine wpAnyH_take (i := 46) (oi := ⟨some 55, .pick (.tmp 51) (.tmp 54) (.const (Value.bool false)), 4, "law.go:34", #[⟨42, .data⟩, ⟨45, .data⟩], none⟩) (v := ?vz249_46) rfl (by kernel_rfl) (by kernel_rfl) (by kernel_rfl) (fun _ _ _ h => h) (Or.inl ⟨by rfl, ?yz249_46⟩) (by assumption) ?rz249_46
              case yz249_46 => (intro w' hSw; (try dsimp only at hSw); go_simp; try with_reducible rfl)
              try simp only [Act.put, List.setIfInBounds_toArray, List.set_cons_zero, List.set_cons_succ]
              refine wpAnyH_take (i := 47) (oi := ⟨some 56, .move (.tmp 55), 4, "law.go:34", #[⟨46, .data⟩, ⟨44, .chain⟩], none⟩) (v := ?vz250_47) rfl (by kernel_rfl) (by kernel_rfl) (by kernel_rfl) (fun _ _ _ h => h) (Or.inl ⟨by rfl, ?yz250_47⟩) (by assumption) ?rz250_47
              case yz250_47 => (intro w' hSw; (try dsimp only at hSw); go_simp; try with_reducible rfl)
              try simp only [Act.put, List.setIfInBounds_toArray, List.set_cons_zero, List.set_cons_succ]
              refine wpAnyH_take (i := 48) (oi := ⟨some 57, .fieldAddr 27 (.tmp 5) 1, 0, "law.go:34", #[⟨47, .guard⟩], some (47, true)⟩) (v := undef) rfl (by kernel_rfl) (by kernel_rfl) (by kernel_rfl) (fun _ _ _ h => h) (Or.inr ⟨by rfl, rfl⟩) (by assumption) ?_
              try simp only [Act.put, List.setIfInBounds_toArray, List.set_cons_zero, List.set_cons_succ]
              refine wpAnyH_take (i := 49) (oi := ⟨some 58, .load 24 (.tmp 57), 24, "law.go:34", #[⟨48, .data⟩, ⟨47, .guard⟩], some (47, true)⟩) (v := undef) rfl (by kernel_rfl) (by kernel_rfl) (by kernel_rfl) (fun _ _ _ h => h) (Or.inr ⟨by rfl, rfl⟩) (by assumption) ?_
              try simp only [Act.put, List.setIfInBounds_toArray, List.set_cons_zero, List.set_cons_succ]
              refine wpAnyH_take (i := 50) (oi := ⟨some 59, .call { callee := .value (.func 31), args := #[.tmp 58], argTypes := #[24] }, 38, "law.go:34", #[⟨49, .data⟩, ⟨47, .chain⟩, ⟨47, .guard⟩], some (47, true)⟩) (v := undef) rfl (by kernel_rfl) (by kernel_rfl) (by kernel_rfl) (fun _ _ _ h => h) (Or.inr ⟨by rfl, rfl⟩) (by assumption) ?_
              try simp only [Act.put, List.setIfInBounds_toArray, List.set_cons_zero, List.set_cons_succ]
              refine wpAnyH_take (i := 51) (oi := ⟨some 60, .binOp .eql 38 (.tmp 59) (.const Value.nilIface) 38, 4, "law.go:34", #[⟨50, .data⟩, ⟨47, .guard⟩], some (47, true)⟩) (v := undef) rfl (by kernel_rfl) (by kernel_rfl) (by kernel_rfl) (fun _ _ _ h => h) (Or.inr ⟨by rfl, rfl⟩) (by assumption) ?_
              try simp only [Act.put, List.setIfInBounds_toArray, List.set_cons_zero, List.set_cons_succ]
              refine wpAnyH_take (i := 52) (oi := ⟨some 61, .pick (.tmp 56) (.tmp 60) (.const (Value.bool false)), 4, "law.go:34", #[⟨47, .data⟩, ⟨51, .data⟩], none⟩) (v := ?vz255_52) rfl (by kernel_rfl) (by kernel_rfl) (by kernel_rfl) (fun _ _ _ h => h) (Or.inl ⟨by rfl, ?yz255_52⟩) (by assumption) ?rz255_52
              case yz255_52 => (intro w' hSw; (try dsimp only at hSw); go_simp; try with_reducible rfl)
              try simp only [Act.put, List.setIfInBounds_toArray, List.set_cons_zero, List.set_cons_succ]
              refine wpAnyH_take (i := 53) (oi := ⟨some 62, .move (.tmp 61), 4, "law.go:34", #[⟨52, .data⟩, ⟨50, .chain⟩], none⟩) (v := ?vz256_53) rfl (by kernel_rfl) (by kernel_rfl) (by kernel_rfl) (fun _ _ _ h => h) (Or.inl ⟨by rfl, ?yz256_53⟩) (by assumption) ?rz256_53
              case yz256_53 => (intro w' hSw; (try dsimp only at hSw); go_simp; try with_reducible rfl)
              try simp only [Act.put, List.setIfInBounds_toArray, List.set_cons_zero, List.set_cons_succ]
              refine wpAnyH_take (i := 54) (oi := ⟨some 63, .fieldAddr 27 (.tmp 5) 1, 0, "law.go:34", #[⟨53, .guard⟩], some (53, true)⟩) (v := undef) rfl (by kernel_rfl) (by kernel_rfl) (by kernel_rfl) (fun _ _ _ h => h) (Or.inr ⟨by rfl, rfl⟩) (by assumption) ?_
              try simp only [Act.put, List.setIfInBounds_toArray, List.set_cons_zero, List.set_cons_succ]
              refine wpAnyH_take (i := 55) (oi := ⟨some 64, .load 24 (.tmp 63), 24, "law.go:34", #[⟨54, .data⟩, ⟨53, .guard⟩], some (53, true)⟩) (v := undef) rfl (by kernel_rfl) (by kernel_rfl) (by kernel_rfl) (fun _ _ _ h => h) (Or.inr ⟨by rfl, rfl⟩) (by assumption) ?_
              try simp only [Act.put, List.setIfInBounds_toArray, List.set_cons_zero, List.set_cons_succ]
              refine wpAnyH_take (i := 57) (oi := ⟨some 66, .fieldAddr 27 (.tmp 5) 2, 0, "law.go:34", #[⟨53, .guard⟩], some (53, true)⟩) (v := undef) rfl (by kernel_rfl) (by kernel_rfl) (by kernel_rfl) (fun _ _ _ h => h) (Or.inr ⟨by rfl, rfl⟩) (by assumption) ?_
              try simp only [Act.put, List.setIfInBounds_toArray, List.set_cons_zero, List.set_cons_succ]
              refine wpAnyH_take (i := 58) (oi := ⟨some 67, .load 25 (.tmp 66), 25, "law.go:34", #[⟨57, .data⟩, ⟨53, .guard⟩], some (53, true)⟩) (v := undef) rfl (by kernel_rfl) (by kernel_rfl) (by kernel_rfl) (fun _ _ _ h => h) (Or.inr ⟨by rfl, rfl⟩) (by assumption) ?_
              try simp only [Act.put, List.setIfInBounds_toArray, List.set_cons_zero, List.set_cons_succ]
              refine wpAnyH_take (i := 56) (oi := ⟨some 65, .call { callee := .value (.func 32), args := #[.tmp 64], argTypes := #[24] }, 25, "law.go:34", #[⟨55, .data⟩, ⟨53, .chain⟩, ⟨53, .guard⟩], some (53, true)⟩) (v := undef) rfl (by kernel_rfl) (by kernel_rfl) (by kernel_rfl) (fun _ _ _ h => h) (Or.inr ⟨by rfl, rfl⟩) (by assumption) ?_
              try simp only [Act.put, List.setIfInBounds_toArray, List.set_cons_zero, List.set_cons_succ]
              refine wpAnyH_take (i := 59) (oi := ⟨some 68, .call { callee := .value (.func 14), args := #[.tmp 65, .tmp 67], argTypes := #[25, 25] }, 4, "law.go:34", #[⟨56, .data⟩, ⟨58, .data⟩, ⟨56, .chain⟩, ⟨53, .guard⟩], some (53, true)⟩) (v := undef) rfl (by kernel_rfl) (by kernel_rfl) (by kernel_rfl) (fun _ _ _ h => h) (Or.inr ⟨by rfl, rfl⟩) (by assumption) ?_
              try simp only [Act.put, List.setIfInBounds_toArray, List.set_cons_zero, List.set_cons_succ]
              refine wpAnyH_take (i := 60) (oi := ⟨some 69, .pick (.tmp 62) (.tmp 68) (.const (Value.bool false)), 4, "law.go:34", #[⟨53, .data⟩, ⟨59, .data⟩], none⟩) (v := ?vz263_60) rfl (by kernel_rfl) (by kernel_rfl) (by kernel_rfl) (fun _ _ _ h => h) (Or.inl ⟨by rfl, ?yz263_60⟩) (by assumption) ?rz263_60
              case yz263_60 => (intro w' hSw; (try dsimp only at hSw); go_simp; try with_reducible rfl)
              try simp only [Act.put, List.setIfInBounds_toArray, List.set_cons_zero, List.set_cons_succ]
              refine wpAnyH_take (i := 61) (oi := ⟨some 8, .assign (.tmp 69), 4, "law.go:34", #[⟨60, .data⟩, ⟨59, .chain⟩, ⟨0, .phase⟩, ⟨1, .phase⟩, ⟨2, .phase⟩, ⟨3, .phase⟩, ⟨4, .phase⟩, ⟨5, .phase⟩, ⟨6, .phase⟩, ⟨7, .phase⟩, ⟨8, .phase⟩, ⟨9, .phase⟩, ⟨10, .phase⟩, ⟨11, .phase⟩, ⟨12, .phase⟩, ⟨13, .phase⟩, ⟨14, .phase⟩, ⟨15, .phase⟩, ⟨16, .phase⟩, ⟨17, .phase⟩, ⟨18, .phase⟩, ⟨19, .phase⟩, ⟨20, .phase⟩, ⟨21, .phase⟩, ⟨22, .phase⟩, ⟨23, .phase⟩, ⟨24, .phase⟩, ⟨25, .phase⟩, ⟨26, .phase⟩, ⟨27, .phase⟩, ⟨28, .phase⟩, ⟨29, .phase⟩, ⟨30, .phase⟩, ⟨31, .phase⟩, ⟨32, .phase⟩, ⟨33, .phase⟩, ⟨34, .phase⟩, ⟨35, .phase⟩, ⟨36, .phase⟩, ⟨37, .phase⟩, ⟨38, .phase⟩, ⟨39, .phase⟩, ⟨40, .phase⟩, ⟨41, .phase⟩, ⟨42, .phase⟩, ⟨43, .phase⟩, ⟨44, .phase⟩, ⟨45, .phase⟩, ⟨46, .phase⟩, ⟨47, .phase⟩, ⟨48, .phase⟩, ⟨49, .phase⟩, ⟨50, .phase⟩, ⟨51, .phase⟩, ⟨52, .phase⟩, ⟨53, .phase⟩, ⟨54, .phase⟩, ⟨55, .phase⟩, ⟨56, .phase⟩, ⟨57, .phase⟩, ⟨58, .phase⟩, ⟨59, .phase⟩, ⟨60, .phase⟩], none⟩) (v := ?vz264_61) rfl (by kernel_rfl) (by kernel_rfl) (by kernel_rfl) (fun _ _ _ h => h) (Or.inl ⟨by rfl, ?yz264_61⟩) (by assumption) ?rz264_61
              case yz264_61 => (intro w' hSw; (try dsimp only at hSw); go_simp; try with_reducible rfl)
              try simp only [Act.put, List.setIfInBounds_toArray, List.set_cons_zero, List.set_cons_succ]
              refine wpAnyH_done (by kernel_rfl) ?_ _
              go_wp2_with fail
              go_ret
              exact ⟨false, rfl, (fun h => by cases h), HB0.out.trans (Below.mono (by first | exact B5x.out | exact B5x.out.drew | exact below_drewN B5x.out _) HB0.out.size)⟩
            | true =>
              have H5 := Lib.hid (hb rfl)
              clear hb
              go_wp2_with fail
              refine hK.out _ _ (SS.out _ B5x.out) (fun hHeld5 => ?_)
              clear hK K hHeld4
              try simp only [Act.put, List.setIfInBounds_toArray, List.set_cons_zero, List.set_cons_succ]
              refine wpAnyH_take (i := 25) (oi := ⟨some 34, .pick (.tmp 31) (.tmp 33) (.const (Value.bool false)), 4, "law.go:34", #[⟨22, .data⟩, ⟨24, .data⟩], none⟩) (v := ?vz265_25) rfl (by kernel_rfl) (by kernel_rfl) (by kernel_rfl) (fun _ _ _ h => h) (Or.inl ⟨by rfl, ?yz265_25⟩) (by assumption) ?rz265_25
              case yz265_25 => (intro w' hSw; (try dsimp only at hSw); go_simp; try with_reducible rfl)
              try simp only [Act.put, List.setIfInBounds_toArray, List.set_cons_zero, List.set_cons_succ]
              refine wpAnyH_take (i := 26) (oi := ⟨some 35, .move (.tmp 34), 4, "law.go:34", #[⟨25, .data⟩, ⟨24, .chain⟩], none⟩) (v := ?vz266_26) rfl (by kernel_rfl) (by kernel_rfl) (by kernel_rfl) (fun _ _ _ h => h) (Or.inl ⟨by rfl, ?yz266_26⟩) (by assumption) ?rz266_26
              case yz266_26 => (intro w' hSw; (try dsimp only at hSw); go_simp; try with_reducible rfl)
              try simp only [Act.put, List.setIfInBounds_toArray, List.set_cons_zero, List.set_cons_succ]
              refine wpAnyH_take (i := 27) (oi := ⟨some 36, .move (.tmp 0), 23, "law.go:34", #[⟨26, .guard⟩], some (26, true)⟩) (v := ?vz267_27) rfl (by kernel_rfl) (by kernel_rfl) (by kernel_rfl) (fun _ _ _ h => h) (Or.inl ⟨by rfl, ?yz267_27⟩) (by assumption) ?rz267_27
              case yz267_27 => (intro w' hSw; (try dsimp only at hSw); go_simp; try with_reducible rfl)
              try simp only [Act.put, List.setIfInBounds_toArray, List.set_cons_zero, List.set_cons_succ]
              refine wpAnyH_ready (rs := [28]) (by kernel_rfl) (by simp) ?_
              refine AllReadyH.cons (o := ⟨some 37, .call { callee := .value (.func 29), args := #[.tmp 36], argTypes := #[23] }, 38, "law.go:34", #[⟨27, .data⟩, ⟨26, .chain⟩, ⟨26, .guard⟩], some (26, true)⟩) rfl (fun K hK => ?_) AllReadyH.nil
              go_simp
              go_at_call 29
              refine (CH.out _ (by first | exact B5x.out | exact B5x.out.drew | exact below_drewN B5x.out _) H0.out).mono ?_
              rintro e x6 hx
              rcases hx with ⟨rfl, hc, bb⟩ | ⟨Fp, rfl, bb⟩
              · have B6x := Lib.hid bb
                have H6 := Lib.hid hc
                clear bb hc
                go_wp2_with fail
                refine hK.out _ _ (SS.out _ B6x.out) (fun hHeld6 => ?_)
                clear hK K hHeld5
                try simp only [Act.put, List.setIfInBounds_toArray, List.set_cons_zero, List.set_cons_succ]
                refine wpAnyH_take (i := 29) (oi := ⟨some 38, .binOp .eql 38 (.tmp 37) (.const Value.nilIface) 38, 4, "law.go:34", #[⟨28, .data⟩, ⟨26, .guard⟩], some (26, true)⟩) (v := ?vz268_29) rfl (by kernel_rfl) (by kernel_rfl) (by kernel_rfl) (fun _ _ _ h => h) (Or.inl ⟨by rfl, ?yz268_29⟩) (by assumption) ?rz268_29
                case yz268_29 => (intro w' hSw; (try dsimp only at hSw); go_simp; try with_reducible rfl)
                try simp only [Act.put, List.setIfInBounds_toArray, List.set_cons_zero, List.set_cons_succ]
                refine wpAnyH_take (i := 30) (oi := ⟨some 39, .pick (.tmp 35) (.tmp 38) (.const (Value.bool false)), 4, "law.go:34", #[⟨26, .data⟩, ⟨29, .data⟩], none⟩) (v := ?vz269_30) rfl (by kernel_rfl) (by kernel_rfl) (by kernel_rfl) (fun _ _ _ h => h) (Or.inl ⟨by rfl, ?yz269_30⟩) (by assumption) ?rz269_30
                case yz269_30 => (intro w' hSw; (try dsimp only at hSw); go_simp; try with_reducible rfl)
                try simp only [Act.put, List.setIfInBounds_toArray, List.set_cons_zero, List.set_cons_succ]
                refine wpAnyH_take (i := 31) (oi := ⟨some 40, .move (.tmp 39), 4, "law.go:34", #[⟨30, .data⟩, ⟨28, .chain⟩], none⟩) (v := ?vz270_31) rfl (by kernel_rfl) (by kernel_rfl) (by kernel_rfl) (fun _ _ _ h => h) (Or.inl ⟨by rfl, ?yz270_31⟩) (by assumption) ?rz270_31
                case yz270_31 => (intro w' hSw; (try dsimp only at hSw); go_simp; try with_reducible rfl)
                try simp only [Act.put, List.setIfInBounds_toArray, List.set_cons_zero, List.set_cons_succ]
                refine wpAnyH_take (i := 32) (oi := ⟨some 41, .fieldAddr 27 (.tmp 5) 0, 0, "law.go:34", #[⟨31, .guard⟩], some (31, true)⟩) (v := ?vz271_32) rfl (by kernel_rfl) (by kernel_rfl) (by kernel_rfl) (fun _ _ _ h => h) (Or.inl ⟨by rfl, ?yz271_32⟩) (by assumption) ?rz271_32
                case yz271_32 => (intro w' hSw; (try dsimp only at hSw); go_simp; try with_reducible rfl)
                try simp only [Act.put, List.setIfInBounds_toArray, List.set_cons_zero, List.set_cons_succ]
                refine wpAnyH_take (i := 33) (oi := ⟨some 42, .load 23 (.tmp 41), 23, "law.go:34", #[⟨32, .data⟩, ⟨31, .guard⟩], some (31, true)⟩) (v := ?vz272_33) rfl (by kernel_rfl) (by kernel_rfl) (by kernel_rfl) (fun _ _ _ h => h) (Or.inl ⟨by rfl, ?yz272_33⟩) (by assumption) ?rz272_33
                case yz272_33 => (intro w' hSw; (try dsimp only at hSw); go_simp; try with_reducible rfl)
                try simp only [Act.put, List.setIfInBounds_toArray, List.set_cons_zero, List.set_cons_succ]
                refine wpAnyH_ready (rs := [34]) (by kernel_rfl) (by simp) ?_
                refine AllReadyH.cons (o := ⟨some 43, .call { callee := .value (.func 29), args := #[.tmp 42], argTypes := #[23] }, 38, "law.go:34", #[⟨33, .data⟩, ⟨31, .chain⟩, ⟨31, .guard⟩], some (31, true)⟩) rfl (fun K hK => ?_) AllReadyH.nil
                go_simp
                go_at_call 29
                refine (CT.out _ (by first | exact B6x.out | exact B6x.out.drew | exact below_drewN B6x.out _) H1.out).mono ?_
                rintro e x7 hx
                rcases hx with ⟨rfl, hc, bb⟩ | ⟨Fp, rfl, bb⟩
                · have B7x := Lib.hid bb
                  have H7 := Lib.hid hc
                  clear bb hc
                  go_wp2_with fail
                  refine hK.out _ _ (SS.out _ B7x.out) (fun hHeld7 => ?_)
                  clear hK K hHeld6
                  try simp only [Act.put, List.setIfInBounds_toArray, List.set_cons_zero, List.set_cons_succ]
                  refine wpAnyH_take (i := 35) (oi := ⟨some 44, .binOp .eql 38 (.tmp 43) (.const Value.nilIface) 38, 4, "law.go:34", #[⟨34, .data⟩, ⟨31, .guard⟩], some (31, true)⟩) (v := ?vz273_35) rfl (by kernel_rfl) (by kernel_rfl) (by kernel_rfl) (fun _ _ _ h => h) (Or.inl ⟨by rfl, ?yz273_35⟩) (by assumption) ?rz273_35
                  case yz273_35 => (intro w' hSw; (try dsimp only at hSw); go_simp; try with_reducible rfl)
                  try simp only [Act.put, List.setIfInBounds_toArray, List.set_cons_zero, List.set_cons_succ]
                  refine wpAnyH_take (i := 36) (oi := ⟨some 45, .pick (.tmp 40) (.tmp 44) (.const (Value.bool false)), 4, "law.go:34", #[⟨31, .data⟩, ⟨35, .data⟩], none⟩) (v := ?vz274_36) rfl (by kernel_rfl) (by kernel_rfl) (by kernel_rfl) (fun _ _ _ h => h) (Or.inl ⟨by rfl, ?yz274_36⟩) (by assumption) ?rz274_36
                  case yz274_36 => (intro w' hSw; (try dsimp only at hSw); go_simp; try with_reducible rfl)
                  try simp only [Act.put, List.setIfInBounds_toArray, List.set_cons_zero, List.set_cons_succ]
                  refine wpAnyH_take (i := 37) (oi := ⟨some 46, .move (.tmp 45), 4, "law.go:34", #[⟨36, .data⟩, ⟨34, .chain⟩], none⟩) (v := ?vz275_37) rfl (by kernel_rfl) (by kernel_rfl) (by kernel_rfl) (fun _ _ _ h => h) (Or.inl ⟨by rfl, ?yz275_37⟩) (by assumption) ?rz275_37
                  case yz275_37 => (intro w' hSw; (try dsimp only at hSw); go_simp; try with_reducible rfl)
                  try simp only [Act.put, List.setIfInBounds_toArray, List.set_cons_zero, List.set_cons_succ]
                  refine wpAnyH_take (i := 38) (oi := ⟨some 47, .move (.tmp 2), 24, "law.go:34", #[⟨37, .guard⟩], some (37, true)⟩) (v := ?vz276_38) rfl (by kernel_rfl) (by kernel_rfl) (by kernel_rfl) (fun _ _ _ h => h) (Or.inl ⟨by rfl, ?yz276_38⟩) (by assumption) ?rz276_38
                  case yz276_38 => (intro w' hSw; (try dsimp only at hSw); go_simp; try with_reducible rfl)
                  try simp only [Act.put, List.setIfInBounds_toArray, List.set_cons_zero, List.set_cons_succ]
                  refine wpAnyH_ready (rs := [39]) (by kernel_rfl) (by simp) ?_
                  refine AllReadyH.cons (o := ⟨some 48, .call { callee := .value (.func 31), args := #[.tmp 47], argTypes := #[24] }, 38, "law.go:34", #[⟨38, .data⟩, ⟨37, .chain⟩, ⟨37, .guard⟩], some (37, true)⟩) rfl (fun K hK => ?_) AllReadyH.nil
                  go_simp
                  go_at_call 31
                  refine (CIX.out _ (by first | exact B7x.out | exact B7x.out.drew | exact below_drewN B7x.out _) H4.out).mono ?_
                  rintro e x8 hx
                  rcases hx with ⟨rfl, hc, bb⟩ | ⟨Fp, rfl, bb⟩
                  · have B8x := Lib.hid bb
                    have H8 := Lib.hid hc
                    clear bb hc
                    go_wp2_with fail
                    refine hK.out _ _ (SS.out _ B8x.out) (fun hHeld8 => ?_)
                    clear hK K hHeld7
                    try simp only [Act.put, List.setIfInBounds_toArray, List.set_cons_zero, List.set_cons_succ]
                    refine wpAnyH_take (i := 40) (oi := ⟨some 49, .binOp .eql 38 (.tmp 48) (.const Value.nilIface) 38, 4, "law.go:34", #[⟨39, .data⟩, ⟨37, .guard⟩], some (37, true)⟩) (v := ?vz277_40) rfl (by kernel_rfl) (by kernel_rfl) (by kernel_rfl) (fun _ _ _ h => h) (Or.inl ⟨by rfl, ?yz277_40⟩) (by assumption) ?rz277_40
                    case yz277_40 => (intro w' hSw; (try dsimp only at hSw); go_simp; try with_reducible rfl)
                    try simp only [Act.put, List.setIfInBounds_toArray, List.set_cons_zero, List.set_cons_succ]
                    refine wpAnyH_take (i := 41) (oi := ⟨some 50, .pick (.tmp 46) (.tmp 49) (.const (Value.bool false)), 4, "law.go:34", #[⟨37, .data⟩, ⟨40, .data⟩], none⟩) (v := ?vz278_41) rfl (by kernel_rfl) (by kernel_rfl) (by kernel_rfl) (fun _ _ _ h => h) (Or.inl ⟨by rfl, ?yz278_41⟩) (by assumption) ?rz278_41
                    case yz278_41 => (intro w' hSw; (try dsimp only at hSw); go_simp; try with_reducible rfl)
                    try simp only [Act.put, List.setIfInBounds_toArray, List.set_cons_zero, List.set_cons_succ]
                    refine wpAnyH_take (i := 42) (oi := ⟨some 51, .move (.tmp 50), 4, "law.go:34", #[⟨41, .data⟩, ⟨39, .chain⟩], none⟩) (v := ?vz279_42) rfl (by kernel_rfl) (by kernel_rfl) (by kernel_rfl) (fun _ _ _ h => h) (Or.inl ⟨by rfl, ?yz279_42⟩) (by assumption) ?rz279_42
                    case yz279_42 => (intro w' hSw; (try dsimp only at hSw); go_simp; try with_reducible rfl)
                    try simp only [Act.put, List.setIfInBounds_toArray, List.set_cons_zero, List.set_cons_succ]
                    refine wpAnyH_take (i := 43) (oi := ⟨some 52, .move (.tmp 3), 23, "law.go:34", #[⟨42, .guard⟩], some (42, true)⟩) (v := ?vz280_43) rfl (by kernel_rfl) (by kernel_rfl) (by kernel_rfl) (fun _ _ _ h => h) (Or.inl ⟨by rfl, ?yz280_43⟩) (by assumption) ?rz280_43
                    case yz280_43 => (intro w' hSw; (try dsimp only at hSw); go_simp; try with_reducible rfl)
                    try simp only [Act.put, List.setIfInBounds_toArray, List.set_cons_zero, List.set_cons_succ]
                    refine wpAnyH_ready (rs := [44]) (by kernel_rfl) (by simp) ?_
                    refine AllReadyH.cons (o := ⟨some 53, .call { callee := .value (.func 29), args := #[.tmp 52], argTypes := #[23] }, 38, "law.go:34", #[⟨43, .data⟩, ⟨42, .chain⟩, ⟨42, .guard⟩], some (42, true)⟩) rfl (fun K hK => ?_) AllReadyH.nil
                    go_simp
                    go_at_call 29
                    refine (CWK.out _ (by first | exact B8x.out | exact B8x.out.drew | exact below_drewN B8x.out _) H5.out).mono ?_
                    rintro e x9 hx
                    rcases hx with ⟨rfl, hc, bb⟩ | ⟨Fp, rfl, bb⟩
                    · have B9x := Lib.hid bb
                      have H9 := Lib.hid hc
                      clear bb hc
                      go_wp2_with fail
                      refine hK.out _ _ (SS.out _ B9x.out) (fun hHeld9 => ?_)
                      clear hK K hHeld8
                      try simp only [Act.put, List.setIfInBounds_toArray, List.set_cons_zero, List.set_cons_succ]
                      refine wpAnyH_take (i := 45) (oi := ⟨some 54, .binOp .eql 38 (.tmp 53) (.const Value.nilIface) 38, 4, "law.go:34", #[⟨44, .data⟩, ⟨42, .guard⟩], some (42, true)⟩) (v := ?vz281_45) rfl (by kernel_rfl) (by kernel_rfl) (by kernel_rfl) (fun _ _ _ h => h) (Or.inl ⟨by rfl, ?yz281_45⟩) (by assumption) ?rz281_45
                      case yz281_45 => (intro w' hSw; (try dsimp only at hSw); go_simp; try with_reducible rfl)
                      try simp only [Act.put, List.setIfInBounds_toArray, List.set_cons_zero, List.set_cons_succ]
                      refine wpAnyH_take (i := 46) (oi := ⟨some 55, .pick (.tmp 51) (.tmp 54) (.const (Value.bool false)), 4, "law.go:34", #[⟨42, .data⟩, ⟨45, .data⟩], none⟩) (v := ?vz282_46) rfl (by kernel_rfl) (by kernel_rfl) (by kernel_rfl) (fun _ _ _ h => h) (Or.inl ⟨by rfl, ?yz282_46⟩) (by assumption) ?rz282_46
                      case yz282_46 => (intro w' hSw; (try dsimp only at hSw); go_simp; try with_reducible rfl)
                      try simp only [Act.put, List.setIfInBounds_toArray, List.set_cons_zero, List.set_cons_succ]
                      refine wpAnyH_take (i := 47) (oi := ⟨some 56, .move (.tmp 55), 4, "law.go:34", #[⟨46, .data⟩, ⟨44, .chain⟩], none⟩) (v := ?vz283_47) rfl (by kernel_rfl) (by kernel_rfl) (by kernel_rfl) (fun _ _ _ h => h) (Or.inl ⟨by rfl, ?yz283_47⟩) (by assumption) ?rz283_47
                      case yz283_47 => (intro w' hSw; (try dsimp only at hSw); go_simp; try with_reducible rfl)
                      try simp only [Act.put, List.setIfInBounds_toArray, List.set_cons_zero, List.set_cons_succ]
                      refine wpAnyH_take (i := 48) (oi := ⟨some 57, .fieldAddr 27 (.tmp 5) 1, 0, "law.go:34", #[⟨47, .guard⟩], some (47, true)⟩) (v := ?vz284_48) rfl (by kernel_rfl) (by kernel_rfl) (by kernel_rfl) (fun _ _ _ h => h) (Or.inl ⟨by rfl, ?yz284_48⟩) (by assumption) ?rz284_48
                      case yz284_48 => (intro w' hSw; (try dsimp only at hSw); go_simp; try with_reducible rfl)
                      try simp only [Act.put, List.setIfInBounds_toArray, List.set_cons_zero, List.set_cons_succ]
                      refine wpAnyH_take (i := 49) (oi := ⟨some 58, .load 24 (.tmp 57), 24, "law.go:34", #[⟨48, .data⟩, ⟨47, .guard⟩], some (47, true)⟩) (v := ?vz285_49) rfl (by kernel_rfl) (by kernel_rfl) (by kernel_rfl) (fun _ _ _ h => h) (Or.inl ⟨by rfl, ?yz285_49⟩) (by assumption) ?rz285_49
                      case yz285_49 => (intro w' hSw; (try dsimp only at hSw); go_simp; try with_reducible rfl)
                      try simp only [Act.put, List.setIfInBounds_toArray, List.set_cons_zero, List.set_cons_succ]
                      refine wpAnyH_ready (rs := [50]) (by kernel_rfl) (by simp) ?_
                      refine AllReadyH.cons (o := ⟨some 59, .call { callee := .value (.func 31), args := #[.tmp 58], argTypes := #[24] }, 38, "law.go:34", #[⟨49, .data⟩, ⟨47, .chain⟩, ⟨47, .guard⟩], some (47, true)⟩) rfl (fun K hK => ?_) AllReadyH.nil
                      go_simp
                      go_at_call 31
                      refine (CEN.out _ (by first | exact B9x.out | exact B9x.out.drew | exact below_drewN B9x.out _) H2.out).mono ?_
                      rintro e x10 hx
                      rcases hx with ⟨rfl, hc, bb⟩ | ⟨Fp, rfl, bb⟩
                      · have B10x := Lib.hid bb
                        have H10 := Lib.hid hc
                        clear bb hc
                        go_wp2_with fail
                        refine hK.out _ _ (SS.out _ B10x.out) (fun hHeld10 => ?_)
                        clear hK K hHeld9
                        try simp only [Act.put, List.setIfInBounds_toArray, List.set_cons_zero, List.set_cons_succ]
                        refine wpAnyH_take (i := 51) (oi := ⟨some 60, .binOp .eql 38 (.tmp 59) (.const Value.nilIface) 38, 4, "law.go:34", #[⟨50, .data⟩, ⟨47, .guard⟩], some (47, true)⟩) (v := ?vz286_51) rfl (by kernel_rfl) (by kernel_rfl) (by kernel_rfl) (fun _ _ _ h => h) (Or.inl ⟨by rfl, ?yz286_51⟩) (by assumption) ?rz286_51
                        case yz286_51 => (intro w' hSw; (try dsimp only at hSw); go_simp; try with_reducible rfl)
                        try simp only [Act.put, List.setIfInBounds_toArray, List.set_cons_zero, List.set_cons_succ]
                        refine wpAnyH_take (i := 52) (oi := ⟨some 61, .pick (.tmp 56) (.tmp 60) (.const (Value.bool false)), 4, "law.go:34", #[⟨47, .data⟩, ⟨51, .data⟩], none⟩) (v := ?vz287_52) rfl (by kernel_rfl) (by kernel_rfl) (by kernel_rfl) (fun _ _ _ h => h) (Or.inl ⟨by rfl, ?yz287_52⟩) (by assumption) ?rz287_52
                        case yz287_52 => (intro w' hSw; (try dsimp only at hSw); go_simp; try with_reducible rfl)
                        try simp only [Act.put, List.setIfInBounds_toArray, List.set_cons_zero, List.set_cons_succ]
                        refine wpAnyH_take (i := 53) (oi := ⟨some 62, .move (.tmp 61), 4, "law.go:34", #[⟨52, .data⟩, ⟨50, .chain⟩], none⟩) (v := ?vz288_53) rfl (by kernel_rfl) (by kernel_rfl) (by kernel_rfl) (fun _ _ _ h => h) (Or.inl ⟨by rfl, ?yz288_53⟩) (by assumption) ?rz288_53
                        case yz288_53 => (intro w' hSw; (try dsimp only at hSw); go_simp; try with_reducible rfl)
                        try simp only [Act.put, List.setIfInBounds_toArray, List.set_cons_zero, List.set_cons_succ]
                        refine wpAnyH_take (i := 54) (oi := ⟨some 63, .fieldAddr 27 (.tmp 5) 1, 0, "law.go:34", #[⟨53, .guard⟩], some (53, true)⟩) (v := ?vz289_54) rfl (by kernel_rfl) (by kernel_rfl) (by kernel_rfl) (fun _ _ _ h => h) (Or.inl ⟨by rfl, ?yz289_54⟩) (by assumption) ?rz289_54
                        case yz289_54 => (intro w' hSw; (try dsimp only at hSw); go_simp; try with_reducible rfl)
                        try simp only [Act.put, List.setIfInBounds_toArray, List.set_cons_zero, List.set_cons_succ]
                        refine wpAnyH_take (i := 55) (oi := ⟨some 64, .load 24 (.tmp 63), 24, "law.go:34", #[⟨54, .data⟩, ⟨53, .guard⟩], some (53, true)⟩) (v := ?vz290_55) rfl (by kernel_rfl) (by kernel_rfl) (by kernel_rfl) (fun _ _ _ h => h) (Or.inl ⟨by rfl, ?yz290_55⟩) (by assumption) ?rz290_55
                        case yz290_55 => (intro w' hSw; (try dsimp only at hSw); go_simp; try with_reducible rfl)
                        try simp only [Act.put, List.setIfInBounds_toArray, List.set_cons_zero, List.set_cons_succ]
                        refine wpAnyH_take (i := 57) (oi := ⟨some 66, .fieldAddr 27 (.tmp 5) 2, 0, "law.go:34", #[⟨53, .guard⟩], some (53, true)⟩) (v := ?vz291_57) rfl (by kernel_rfl) (by kernel_rfl) (by kernel_rfl) (fun _ _ _ h => h) (Or.inl ⟨by rfl, ?yz291_57⟩) (by assumption) ?rz291_57
                        case yz291_57 => (intro w' hSw; (try dsimp only at hSw); go_simp; try with_reducible rfl)
                        try simp only [Act.put, List.setIfInBounds_toArray, List.set_cons_zero, List.set_cons_succ]
                        refine wpAnyH_take (i := 58) (oi := ⟨some 67, .load 25 (.tmp 66), 25, "law.go:34", #[⟨57, .data⟩, ⟨53, .guard⟩], some (53, true)⟩) (v := ?vz292_58) rfl (by kernel_rfl) (by kernel_rfl) (by kernel_rfl) (fun _ _ _ h => h) (Or.inl ⟨by rfl, ?yz292_58⟩) (by assumption) ?rz292_58
                        case yz292_58 => (intro w' hSw; (try dsimp only at hSw); go_simp; try with_reducible rfl)
                        try simp only [Act.put, List.setIfInBounds_toArray, List.set_cons_zero, List.set_cons_succ]
                        refine wpAnyH_ready (rs := [56]) (by kernel_rfl) (by simp) ?_
                        refine AllReadyH.cons (o := ⟨some 65, .call { callee := .value (.func 32), args := #[.tmp 64], argTypes := #[24] }, 25, "law.go:34", #[⟨55, .data⟩, ⟨53, .chain⟩, ⟨53, .guard⟩], some (53, true)⟩) rfl (fun K hK => ?_) AllReadyH.nil
                        go_simp
                        go_at_call 32
                        refine (CONF.out _ (by first | exact B10x.out | exact B10x.out.drew | exact below_drewN B10x.out _) H2.out.1).mono ?_
                        rintro e x11 ⟨uc, rfl, rc, bb⟩
                        have B11x := Lib.hid bb
                        have RC := Lib.hid rc
                        clear bb rc
                        go_wp2_with fail
                        refine hK.out _ _ (SS.out _ B11x.out) (fun hHeld11 => ?_)
                        clear hK K hHeld10
                        try simp only [Act.put, List.setIfInBounds_toArray, List.set_cons_zero, List.set_cons_succ]
                        refine wpAnyH_ready (rs := [59]) (by kernel_rfl) (by simp) ?_
                        refine AllReadyH.cons (o := ⟨some 68, .call { callee := .value (.func 14), args := #[.tmp 65, .tmp 67], argTypes := #[25, 25] }, 4, "law.go:34", #[⟨56, .data⟩, ⟨58, .data⟩, ⟨56, .chain⟩, ⟨53, .guard⟩], some (53, true)⟩) rfl (fun K hK => ?_) AllReadyH.nil
                        go_simp
                        go_at_call 14
                        refine (TX.out _ (by first | exact B11x.out | exact B11x.out.drew | exact below_drewN B11x.out _) uc (by first | exact RC.out | exact RC.out.drew | exact RC.out.drewN _)).mono ?_
                        rintro e x12 ⟨b, rfl, hb, bb⟩
                        have B12x := Lib.hid bb
                        clear bb
                        cases b with
                        | false =>
                          clear hb
                          go_wp2_with fail
                          refine hK.out _ _ (SS.out _ B12x.out) (fun hHeld12 => ?_)
                          clear hK K hHeld11
                          try simp only [Act.put, List.setIfInBounds_toArray, List.set_cons_zero, List.set_cons_succ]
                          refine wpAnyH_take (i := 60) (oi := ⟨some 69, .pick (.tmp 62) (.tmp 68) (.const (Value.bool false)), 4, "law.go:34", #[⟨53, .data⟩, ⟨59, .data⟩], none⟩) (v := ?vz293_60) rfl (by kernel_rfl) (by kernel_rfl) (by kernel_rfl) (fun _ _ _ h => h) (Or.inl ⟨by rfl, ?yz293_60⟩) (by assumption) ?rz293_60
                          case yz293_60 => (intro w' hSw; (try dsimp only at hSw); go_simp; try with_reducible rfl)
                          try simp only [Act.put, List.setIfInBounds_toArray, List.set_cons_zero, List.set_cons_succ]
                          refine wpAnyH_take (i := 61) (oi := ⟨some 8, .assign (.tmp 69), 4, "law.go:34", #[⟨60, .data⟩, ⟨59, .chain⟩, ⟨0, .phase⟩, ⟨1, .phase⟩, ⟨2, .phase⟩, ⟨3, .phase⟩, ⟨4, .phase⟩, ⟨5, .phase⟩, ⟨6, .phase⟩, ⟨7, .phase⟩, ⟨8, .phase⟩, ⟨9, .phase⟩, ⟨10, .phase⟩, ⟨11, .phase⟩, ⟨12, .phase⟩, ⟨13, .phase⟩, ⟨14, .phase⟩, ⟨15, .phase⟩, ⟨16, .phase⟩, ⟨17, .phase⟩, ⟨18, .phase⟩, ⟨19, .phase⟩, ⟨20, .phase⟩, ⟨21, .phase⟩, ⟨22, .phase⟩, ⟨23, .phase⟩, ⟨24, .phase⟩, ⟨25, .phase⟩, ⟨26, .phase⟩, ⟨27, .phase⟩, ⟨28, .phase⟩, ⟨29, .phase⟩, ⟨30, .phase⟩, ⟨31, .phase⟩, ⟨32, .phase⟩, ⟨33, .phase⟩, ⟨34, .phase⟩, ⟨35, .phase⟩, ⟨36, .phase⟩, ⟨37, .phase⟩, ⟨38, .phase⟩, ⟨39, .phase⟩, ⟨40, .phase⟩, ⟨41, .phase⟩, ⟨42, .phase⟩, ⟨43, .phase⟩, ⟨44, .phase⟩, ⟨45, .phase⟩, ⟨46, .phase⟩, ⟨47, .phase⟩, ⟨48, .phase⟩, ⟨49, .phase⟩, ⟨50, .phase⟩, ⟨51, .phase⟩, ⟨52, .phase⟩, ⟨53, .phase⟩, ⟨54, .phase⟩, ⟨55, .phase⟩, ⟨56, .phase⟩, ⟨57, .phase⟩, ⟨58, .phase⟩, ⟨59, .phase⟩, ⟨60, .phase⟩], none⟩) (v := ?vz294_61) rfl (by kernel_rfl) (by kernel_rfl) (by kernel_rfl) (fun _ _ _ h => h) (Or.inl ⟨by rfl, ?yz294_61⟩) (by assumption) ?rz294_61
                          case yz294_61 => (intro w' hSw; (try dsimp only at hSw); go_simp; try with_reducible rfl)
                          try simp only [Act.put, List.setIfInBounds_toArray, List.set_cons_zero, List.set_cons_succ]
                          refine wpAnyH_done (by kernel_rfl) ?_ _
                          go_wp2_with fail
                          go_ret
                          exact ⟨false, rfl, (fun h => by cases h), HB0.out.trans (Below.mono (by first | exact B12x.out | exact B12x.out.drew | exact below_drewN B12x.out _) HB0.out.size)⟩
                        | true =>
                          have H11 := Lib.hid (hb rfl)
                          clear hb
                          go_wp2_with fail
                          refine hK.out _ _ (SS.out _ B12x.out) (fun hHeld12 => ?_)
                          clear hK K hHeld11
                          try simp only [Act.put, List.setIfInBounds_toArray, List.set_cons_zero, List.set_cons_succ]
                          refine wpAnyH_take (i := 60) (oi := ⟨some 69, .pick (.tmp 62) (.tmp 68) (.const (Value.bool false)), 4, "law.go:34", #[⟨53, .data⟩, ⟨59, .data⟩], none⟩) (v := ?vz295_60) rfl (by kernel_rfl) (by kernel_rfl) (by kernel_rfl) (fun _ _ _ h => h) (Or.inl ⟨by rfl, ?yz295_60⟩) (by assumption) ?rz295_60
                          case yz295_60 => (intro w' hSw; (try dsimp only at hSw); go_simp; try with_reducible rfl)
                          try simp only [Act.put, List.setIfInBounds_toArray, List.set_cons_zero, List.set_cons_succ]
                          refine wpAnyH_take (i := 61) (oi := ⟨some 8, .assign (.tmp 69), 4, "law.go:34", #[⟨60, .data⟩, ⟨59, .chain⟩, ⟨0, .phase⟩, ⟨1, .phase⟩, ⟨2, .phase⟩, ⟨3, .phase⟩, ⟨4, .phase⟩, ⟨5, .phase⟩, ⟨6, .phase⟩, ⟨7, .phase⟩, ⟨8, .phase⟩, ⟨9, .phase⟩, ⟨10, .phase⟩, ⟨11, .phase⟩, ⟨12, .phase⟩, ⟨13, .phase⟩, ⟨14, .phase⟩, ⟨15, .phase⟩, ⟨16, .phase⟩, ⟨17, .phase⟩, ⟨18, .phase⟩, ⟨19, .phase⟩, ⟨20, .phase⟩, ⟨21, .phase⟩, ⟨22, .phase⟩, ⟨23, .phase⟩, ⟨24, .phase⟩, ⟨25, .phase⟩, ⟨26, .phase⟩, ⟨27, .phase⟩, ⟨28, .phase⟩, ⟨29, .phase⟩, ⟨30, .phase⟩, ⟨31, .phase⟩, ⟨32, .phase⟩, ⟨33, .phase⟩, ⟨34, .phase⟩, ⟨35, .phase⟩, ⟨36, .phase⟩, ⟨37, .phase⟩, ⟨38, .phase⟩, ⟨39, .phase⟩, ⟨40, .phase⟩, ⟨41, .phase⟩, ⟨42, .phase⟩, ⟨43, .phase⟩, ⟨44, .phase⟩, ⟨45, .phase⟩, ⟨46, .phase⟩, ⟨47, .phase⟩, ⟨48, .phase⟩, ⟨49, .phase⟩, ⟨50, .phase⟩, ⟨51, .phase⟩, ⟨52, .phase⟩, ⟨53, .phase⟩, ⟨54, .phase⟩, ⟨55, .phase⟩, ⟨56, .phase⟩, ⟨57, .phase⟩, ⟨58, .phase⟩, ⟨59, .phase⟩, ⟨60, .phase⟩], none⟩) (v := ?vz296_61) rfl (by kernel_rfl) (by kernel_rfl) (by kernel_rfl) (fun _ _ _ h => h) (Or.inl ⟨by rfl, ?yz296_61⟩) (by assumption) ?rz296_61
                          case yz296_61 => (intro w' hSw; (try dsimp only at hSw); go_simp; try with_reducible rfl)
                          try simp only [Act.put, List.setIfInBounds_toArray, List.set_cons_zero, List.set_cons_succ]
                          refine wpAnyH_done (by kernel_rfl) ?_ _
                          go_wp2_with fail
                          go_ret
                          exact ⟨true, rfl, (fun _ => ⟨H0.out, H1.out, H2.out, by omega, H4.out, H5.out, H6.out, H7.out, H8.out, H9.out, H10.out, H11.out⟩), HB0.out.trans (Below.mono (by first | exact B12x.out | exact B12x.out.drew | exact below_drewN B12x.out _) HB0.out.size)⟩
                      · have B10x := Lib.hid bb
                        clear bb
                        go_wp2_with fail
                        refine hK.out _ _ (SS.out _ B10x.out) (fun hHeld10 => ?_)
                        clear hK K hHeld9
                        try simp only [Act.put, List.setIfInBounds_toArray, List.set_cons_zero, List.set_cons_succ]
                        refine wpAnyH_take (i := 51) (oi := ⟨some 60, .binOp .eql 38 (.tmp 59) (.const Value.nilIface) 38, 4, "law.go:34", #[⟨50, .data⟩, ⟨47, .guard⟩], some (47, true)⟩) (v := ?vz297_51) rfl (by kernel_rfl) (by kernel_rfl) (by kernel_rfl) (fun _ _ _ h => h) (Or.inl ⟨by rfl, ?yz297_51⟩) (by assumption) ?rz297_51
                        case yz297_51 => (intro w' hSw; (try dsimp only at hSw); go_simp; try with_reducible rfl)
                        try simp only [Act.put, List.setIfInBounds_toArray, List.set_cons_zero, List.set_cons_succ]
                        refine wpAnyH_take (i := 52) (oi := ⟨some 61, .pick (.tmp 56) (.tmp 60) (.const (Value.bool false)), 4, "law.go:34", #[⟨47, .data⟩, ⟨51, .data⟩], none⟩) (v := ?vz298_52) rfl (by kernel_rfl) (by kernel_rfl) (by kernel_rfl) (fun _ _ _ h => h) (Or.inl ⟨by rfl, ?yz298_52⟩) (by assumption) ?rz298_52
                        case yz298_52 => (intro w' hSw; (try dsimp only at hSw); go_simp; try with_reducible rfl)
                        try simp only [Act.put, List.setIfInBounds_toArray, List.set_cons_zero, List.set_cons_succ]
                        refine wpAnyH_take (i := 53) (oi := ⟨some 62, .move (.tmp 61), 4, "law.go:34", #[⟨52, .data⟩, ⟨50, .chain⟩], none⟩) (v := ?vz299_53) rfl (by kernel_rfl) (by kernel_rfl) (by kernel_rfl) (fun _ _ _ h => h) (Or.inl ⟨by rfl, ?yz299_53⟩) (by assumption) ?rz299_53
                        case yz299_53 => (intro w' hSw; (try dsimp only at hSw); go_simp; try with_reducible rfl)
                        try simp only [Act.put, List.setIfInBounds_toArray, List.set_cons_zero, List.set_cons_succ]
                        refine wpAnyH_take (i := 54) (oi := ⟨some 63, .fieldAddr 27 (.tmp 5) 1, 0, "law.go:34", #[⟨53, .guard⟩], some (53, true)⟩) (v := undef) rfl (by kernel_rfl) (by kernel_rfl) (by kernel_rfl) (fun _ _ _ h => h) (Or.inr ⟨by rfl, rfl⟩) (by assumption) ?_
                        try simp only [Act.put, List.setIfInBounds_toArray, List.set_cons_zero, List.set_cons_succ]
                        refine wpAnyH_take (i := 55) (oi := ⟨some 64, .load 24 (.tmp 63), 24, "law.go:34", #[⟨54, .data⟩, ⟨53, .guard⟩], some (53, true)⟩) (v := undef) rfl (by kernel_rfl) (by kernel_rfl) (by kernel_rfl) (fun _ _ _ h => h) (Or.inr ⟨by rfl, rfl⟩) (by assumption) ?_
                        try simp only [Act.put, List.setIfInBounds_toArray, List.set_cons_zero, List.set_cons_succ]
                        refine wpAnyH_take (i := 57) (oi := ⟨some 66, .fieldAddr 27 (.tmp 5) 2, 0, "law.go:34", #[⟨53, .guard⟩], some (53, true)⟩) (v := undef) rfl (by kernel_rfl) (by kernel_rfl) (by kernel_rfl) (fun _ _ _ h => h) (Or.inr ⟨by rfl, rfl⟩) (by assumption) ?_
                        try simp only [Act.put, List.setIfInBounds_toArray, List.set_cons_zero, List.set_cons_succ]
                        refine wpAnyH_take (i := 58) (oi := ⟨some 67, .load 25 (.tmp 66), 25, "law.go:34", #[⟨57, .data⟩, ⟨53, .guard⟩], some (53, true)⟩) (v := undef) rfl (by kernel_rfl) (by kernel_rfl) (by kernel_rfl) (fun _ _ _ h => h) (Or.inr ⟨by rfl, rfl⟩) (by assumption) ?_
                        try simp only [Act.put, List.setIfInBounds_toArray, List.set_cons_zero, List.set_cons_succ]
                        refine wpAnyH_take (i := 56) (oi := ⟨some 65, .call { callee := .value (.func 32), args := #[.tmp 64], argTypes := #[24] }, 25, "law.go:34", #[⟨55, .data⟩, ⟨53, .chain⟩, ⟨53, .guard⟩], some (53, true)⟩) (v := undef) rfl (by kernel_rfl) (by kernel_rfl) (by kernel_rfl) (fun _ _ _ h => h) (Or.inr ⟨by rfl, rfl⟩) (by assumption) ?_
                        try simp only [Act.put, List.setIfInBounds_toArray, List.set_cons_zero, List.set_cons_succ]
                        refine wpAnyH_take (i := 59) (oi := ⟨some 68, .call { callee := .value (.func 14), args := #[.tmp 65, .tmp 67], argTypes := #[25, 25] }, 4, "law.go:34", #[⟨56, .data⟩, ⟨58, .data⟩, ⟨56, .chain⟩, ⟨53, .guard⟩], some (53, true)⟩) (v := undef) rfl (by kernel_rfl) (by kernel_rfl) (by kernel_rfl) (fun _ _ _ h => h) (Or.inr ⟨by rfl, rfl⟩) (by assumption) ?_
                        try simp only [Act.put, List.setIfInBounds_toArray, List.set_cons_zero, List.set_cons_succ]
                        refine wpAnyH_take (i := 60) (oi := ⟨some 69, .pick (.tmp 62) (.tmp 68) (.const (Value.bool false)), 4, "law.go:34", #[⟨53, .data⟩, ⟨59, .data⟩], none⟩) (v := ?vz306_60) rfl (by kernel_rfl) (by kernel_rfl) (by kernel_rfl) (fun _ _ _ h => h) (Or.inl ⟨by rfl, ?yz306_60⟩) (by assumption) ?rz306_60
                        case yz306_60 => (intro w' hSw; (try dsimp only at hSw); go_simp; try with_reducible rfl)
                        try simp only [Act.put, List.setIfInBounds_toArray, List.set_cons_zero, List.set_cons_succ]
                        refine wpAnyH_take (i := 61) (oi := ⟨some 8, .assign (.tmp 69), 4, "law.go:34", #[⟨60, .data⟩, ⟨59, .chain⟩, ⟨0, .phase⟩, ⟨1, .phase⟩, ⟨2, .phase⟩, ⟨3, .phase⟩, ⟨4, .phase⟩, ⟨5, .phase⟩, ⟨6, .phase⟩, ⟨7, .phase⟩, ⟨8, .phase⟩, ⟨9, .phase⟩, ⟨10, .phase⟩, ⟨11, .phase⟩, ⟨12, .phase⟩, ⟨13, .phase⟩, ⟨14, .phase⟩, ⟨15, .phase⟩, ⟨16, .phase⟩, ⟨17, .phase⟩, ⟨18, .phase⟩, ⟨19, .phase⟩, ⟨20, .phase⟩, ⟨21, .phase⟩, ⟨22, .phase⟩, ⟨23, .phase⟩, ⟨24, .phase⟩, ⟨25, .phase⟩, ⟨26, .phase⟩, ⟨27, .phase⟩, ⟨28, .phase⟩, ⟨29, .phase⟩, ⟨30, .phase⟩, ⟨31, .phase⟩, ⟨32, .phase⟩, ⟨33, .phase⟩, ⟨34, .phase⟩, ⟨35, .phase⟩, ⟨36, .phase⟩, ⟨37, .phase⟩, ⟨38, .phase⟩, ⟨39, .phase⟩, ⟨40, .phase⟩, ⟨41, .phase⟩, ⟨42, .phase⟩, ⟨43, .phase⟩, ⟨44, .phase⟩, ⟨45, .phase⟩, ⟨46, .phase⟩, ⟨47, .phase⟩, ⟨48, .phase⟩, ⟨49, .phase⟩, ⟨50, .phase⟩, ⟨51, .phase⟩, ⟨52, .phase⟩, ⟨53, .phase⟩, ⟨54, .phase⟩, ⟨55, .phase⟩, ⟨56, .phase⟩, ⟨57, .phase⟩, ⟨58, .phase⟩, ⟨59, .phase⟩, ⟨60, .phase⟩], none⟩) (v := ?vz307_61) rfl (by kernel_rfl) (by kernel_rfl) (by kernel_rfl) (fun _ _ _ h => h) (Or.inl ⟨by rfl, ?yz307_61⟩) (by assumption) ?rz307_61
                        case yz307_61 => (intro w' hSw; (try dsimp only at hSw); go_simp; try with_reducible rfl)
                        try simp only [Act.put, List.setIfInBounds_toArray, List.set_cons_zero, List.set_cons_succ]
                        refine wpAnyH_done (by kernel_rfl) ?_ _
                        go_wp2_with fail
                        go_ret
                        exact ⟨false, rfl, (fun h => by cases h), HB0.out.trans (Below.mono (by first | exact B10x.out | exact B10x.out.drew | exact below_drewN B10x.out _) HB0.out.size)⟩
                    · have B9x := Lib.hid bb
                      clear bb
                      go_wp2_with fail
                      refine hK.out _ _ (SS.out _ B9x.out) (fun hHeld9 => ?_)
                      clear hK K hHeld8
                      try simp only [Act.put, List.setIfInBounds_toArray, List.set_cons_zero, List.set_cons_succ]
                      refine wpAnyH_take (i := 45) (oi := ⟨some 54, .binOp .eql 38 (.tmp 53) (.const Value.nilIface) 38, 4, "law.go:34", #[⟨44, .data⟩, ⟨42, .guard⟩], some (42, true)⟩) (v := ?vz308_45) rfl (by kernel_rfl) (by kernel_rfl) (by kernel_rfl) (fun _ _ _ h => h) (Or.inl ⟨by rfl, ?yz308_45⟩) (by assumption) ?rz308_45
                      case yz308_45 => (intro w' hSw; (try dsimp only at hSw); go_simp; try with_reducible rfl)
                      try simp only [Act.put, List.setIfInBounds_toArray, List.set_cons_zero, List.set_cons_succ]
                      refine wpAnyH_take (i := 46) (oi := ⟨some 55, .pick (.tmp 51) (.tmp 54) (.const (Value.bool false)), 4, "law.go:34", #[⟨42, .data⟩, ⟨45, .data⟩], none⟩) (v := ?vz309_46) rfl (by kernel_rfl) (by kernel_rfl) (by kernel_rfl) (fun _ _ _ h => h) (Or.inl ⟨by rfl, ?yz309_46⟩) (by assumption) ?rz309_46
                      case yz309_46 => (intro w' hSw; (try dsimp only at hSw); go_simp; try with_reducible rfl)
                      try simp only [Act.put, List.setIfInBounds_toArray, List.set_cons_zero, List.set_cons_succ]
                      refine wpAnyH_take (i := 47) (oi := ⟨some 56, .move (.tmp 55), 4, "law.go:34", #[⟨46, .data⟩, ⟨44, .chain⟩], none⟩) (v := ?vz310_47) rfl (by kernel_rfl) (by kernel_rfl) (by kernel_rfl) (fun _ _ _ h => h) (Or.inl ⟨by rfl, ?yz310_47⟩) (by assumption) ?rz310_47
                      case yz310_47 => (intro w' hSw; (try dsimp only at hSw); go_simp; try with_reducible rfl)
                      try simp only [Act.put, List.setIfInBounds_toArray, List.set_cons_zero, List.set_cons_succ]
                      refine wpAnyH_take (i := 48) (oi := ⟨some 57, .fieldAddr 27 (.tmp 5) 1, 0, "law.go:34", #[⟨47, .guard⟩], some (47, true)⟩) (v := undef) rfl (by kernel_rfl) (by kernel_rfl) (by kernel_rfl) (fun _ _ _ h => h) (Or.inr ⟨by rfl, rfl⟩) (by assumption) ?_
                      try simp only [Act.put, List.setIfInBounds_toArray, List.set_cons_zero, List.set_cons_succ]
                      refine wpAnyH_take (i := 49) (oi := ⟨some 58, .load 24 (.tmp 57), 24, "law.go:34", #[⟨48, .data⟩, ⟨47, .guard⟩], some (47, true)⟩) (v := undef) rfl (by kernel_rfl) (by kernel_rfl) (by kernel_rfl) (fun _ _ _ h => h) (Or.inr ⟨by rfl, rfl⟩) (by assumption) ?_
                      try simp only [Act.put, List.setIfInBounds_toArray, List.set_cons_zero, List.set_cons_succ]
                      refine wpAnyH_take (i := 50) (oi := ⟨some 59, .call { callee := .value (.func 31), args := #[.tmp 58], argTypes := #[24] }, 38, "law.go:34", #[⟨49, .data⟩, ⟨47, .chain⟩, ⟨47, .guard⟩], some (47, true)⟩) (v := undef) rfl (by kernel_rfl) (by kernel_rfl) (by kernel_rfl) (fun _ _ _ h => h) (Or.inr ⟨by rfl, rfl⟩) (by assumption) ?_
                      try simp only [Act.put, List.setIfInBounds_toArray, List.set_cons_zero, List.set_cons_succ]
                      refine wpAnyH_take (i := 51) (oi := ⟨some 60, .binOp .eql 38 (.tmp 59) (.const Value.nilIface) 38, 4, "law.go:34", #[⟨50, .data⟩, ⟨47, .guard⟩], some (47, true)⟩) (v := undef) rfl (by kernel_rfl) (by kernel_rfl) (by kernel_rfl) (fun _ _ _ h => h) (Or.inr ⟨by rfl, rfl⟩) (by assumption) ?_
                      try simp only [Act.put, List.setIfInBounds_toArray, List.set_cons_zero, List.set_cons_succ]
                      refine wpAnyH_take (i := 52) (oi := ⟨some 61, .pick (.tmp 56) (.tmp 60) (.const (Value.bool false)), 4, "law.go:34", #[⟨47, .data⟩, ⟨51, .data⟩], none⟩) (v := ?vz315_52) rfl (by kernel_rfl) (by kernel_rfl) (by kernel_rfl) (fun _ _ _ h => h) (Or.inl ⟨by rfl, ?yz315_52⟩) (by assumption) ?rz315_52
                      case yz315_52 => (intro w' hSw; (try dsimp only at hSw); go_simp; try with_reducible rfl)
                      try simp only [Act.put, List.setIfInBounds_toArray, List.set_cons_zero, List.set_cons_succ]
                      refine wpAnyH_take (i := 53) (oi := ⟨some 62, .move (.tmp 61), 4, "law.go:34", #[⟨52, .data⟩, ⟨50, .chain⟩], none⟩) (v := ?vz316_53) rfl (by kernel_rfl) (by kernel_rfl) (by kernel_rfl) (fun _ _ _ h => h) (Or.inl ⟨by rfl, ?yz316_53⟩) (by assumption) ?rz316_53
                      case yz316_53 => (intro w' hSw; (try dsimp only at hSw); go_simp; try with_reducible rfl)
                      try simp only [Act.put, List.setIfInBounds_toArray, List.set_cons_zero, List.set_cons_succ]
                      refine wpAnyH_take (i := 54) (oi := ⟨some 63, .fieldAddr 27 (.tmp 5) 1, 0, "law.go:34", #[⟨53, .guard⟩], some (53, true)⟩) (v := undef) rfl (by kernel_rfl) (by kernel_rfl) (by kernel_rfl) (fun _ _ _ h => h) (Or.inr ⟨by rfl, rfl⟩) (by assumption) ?_
                      try simp only [Act.put, List.setIfInBounds_toArray, List.set_cons_zero, List.set_cons_succ]
                      refine wpAnyH_take (i := 55) (oi := ⟨some 64, .load 24 (.tmp 63), 24, "law.go:34", #[⟨54, .data⟩, ⟨53, .guard⟩], some (53, true)⟩) (v := undef) rfl (by kernel_rfl) (by kernel_rfl) (by kernel_rfl) (fun _ _ _ h => h) (Or.inr ⟨by rfl, rfl⟩) (by assumption) ?_
                      try simp only [Act.put, List.setIfInBounds_toArray, List.set_cons_zero, List.set_cons_succ]
                      refine wpAnyH_take (i := 57) (oi := ⟨some 66, .fieldAddr 27 (.tmp 5) 2, 0, "law.go:34", #[⟨53, .guard⟩], some (53, true)⟩) (v := undef) rfl (by kernel_rfl) (by kernel_rfl) (by kernel_rfl) (fun _ _ _ h => h) (Or.inr ⟨by rfl, rfl⟩) (by assumption) ?_
                      try simp only [Act.put, List.setIfInBounds_toArray, List.set_cons_zero, List.set_cons_succ]
                      refine wpAnyH_take (i := 58) (oi := ⟨some 67, .load 25 (.tmp 66), 25, "law.go:34", #[⟨57, .data⟩, ⟨53, .guard⟩], some (53, true)⟩) (v := undef) rfl (by kernel_rfl) (by kernel_rfl) (by kernel_rfl) (fun _ _ _ h => h) (Or.inr ⟨by rfl, rfl⟩) (by assumption) ?_
                      try simp only [Act.put, List.setIfInBounds_toArray, List.set_cons_zero, List.set_cons_succ]
                      refine wpAnyH_take (i := 56) (oi := ⟨some 65, .call { callee := .value (.func 32), args := #[.tmp 64], argTypes := #[24] }, 25, "law.go:34", #[⟨55, .data⟩, ⟨53, .chain⟩, ⟨53, .guard⟩], some (53, true)⟩) (v := undef) rfl (by kernel_rfl) (by kernel_rfl) (by kernel_rfl) (fun _ _ _ h => h) (Or.inr ⟨by rfl, rfl⟩) (by assumption) ?_
                      try simp only [Act.put, List.setIfInBounds_toArray, List.set_cons_zero, List.set_cons_succ]
                      refine wpAnyH_take (i := 59) (oi := ⟨some 68, .call { callee := .value (.func 14), args := #[.tmp 65, .tmp 67], argTypes := #[25, 25] }, 4, "law.go:34", #[⟨56, .data⟩, ⟨58, .data⟩, ⟨56, .chain⟩, ⟨53, .guard⟩], some (53, true)⟩) (v := undef) rfl (by kernel_rfl) (by kernel_rfl) (by kernel_rfl) (fun _ _ _ h => h) (Or.inr ⟨by rfl, rfl⟩) (by assumption) ?_
                      try simp only [Act.put, List.setIfInBounds_toArray, List.set_cons_zero, List.set_cons_succ]
                      refine wpAnyH_take (i := 60) (oi := ⟨some 69, .pick (.tmp 62) (.tmp 68) (.const (Value.bool false)), 4, "law.go:34", #[⟨53, .data⟩, ⟨59, .data⟩], none⟩) (v := ?vz323_60) rfl (by kernel_rfl) (by kernel_rfl) (by kernel_rfl) (fun _ _ _ h => h) (Or.inl ⟨by rfl, ?yz323_60⟩) (by assumption) ?rz323_60
                      case yz323_60 => (intro w' hSw; (try dsimp only at hSw); go_simp; try with_reducible rfl)
                      try simp only [Act.put, List.setIfInBounds_toArray, List.set_cons_zero, List.set_cons_succ]
                      refine wpAnyH_take (i := 61) (oi := ⟨some 8, .assign (.tmp 69), 4, "law.go:34", #[⟨60, .data⟩, ⟨59, .chain⟩, ⟨0, .phase⟩, ⟨1, .phase⟩, ⟨2, .phase⟩, ⟨3, .phase⟩, ⟨4, .phase⟩, ⟨5, .phase⟩, ⟨6, .phase⟩, ⟨7, .phase⟩, ⟨8, .phase⟩, ⟨9, .phase⟩, ⟨10, .phase⟩, ⟨11, .phase⟩, ⟨12, .phase⟩, ⟨13, .phase⟩, ⟨14, .phase⟩, ⟨15, .phase⟩, ⟨16, .phase⟩, ⟨17, .phase⟩, ⟨18, .phase⟩, ⟨19, .phase⟩, ⟨20, .phase⟩, ⟨21, .phase⟩, ⟨22, .phase⟩, ⟨23, .phase⟩, ⟨24, .phase⟩, ⟨25, .phase⟩, ⟨26, .phase⟩, ⟨27, .phase⟩, ⟨28, .phase⟩, ⟨29, .phase⟩, ⟨30, .phase⟩, ⟨31, .phase⟩, ⟨32, .phase⟩, ⟨33, .phase⟩, ⟨34, .phase⟩, ⟨35, .phase⟩, ⟨36, .phase⟩, ⟨37, .phase⟩, ⟨38, .phase⟩, ⟨39, .phase⟩, ⟨40, .phase⟩, ⟨41, .phase⟩, ⟨42, .phase⟩, ⟨43, .phase⟩, ⟨44, .phase⟩, ⟨45, .phase⟩, ⟨46, .phase⟩, ⟨47, .phase⟩, ⟨48, .phase⟩, ⟨49, .phase⟩, ⟨50, .phase⟩, ⟨51, .phase⟩, ⟨52, .phase⟩, ⟨53, .phase⟩, ⟨54, .phase⟩, ⟨55, .phase⟩, ⟨56, .phase⟩, ⟨57, .phase⟩, ⟨58, .phase⟩, ⟨59, .phase⟩, ⟨60, .phase⟩], none⟩) (v := ?vz324_61) rfl (by kernel_rfl) (by kernel_rfl) (by kernel_rfl) (fun _ _ _ h => h) (Or.inl ⟨by rfl, ?yz324_61⟩) (by assumption) ?rz324_61
                      case yz324_61 => (intro w' hSw; (try dsimp only at hSw); go_simp; try with_reducible rfl)
                      try simp only [Act.put, List.setIfInBounds_toArray, List.set_cons_zero, List.set_cons_succ]
                      refine wpAnyH_done (by kernel_rfl) ?_ _
                      go_wp2_with fail
                      go_ret
                      exact ⟨false, rfl, (fun h => by cases h), HB0.out.trans (Below.mono (by first | exact B9x.out | exact B9x.out.drew | exact below_drewN B9x.out _) HB0.out.size)⟩
                  · have B8x := Lib.hid bb
                    clear bb
                    go_wp2_with fail
                    refine hK.out _ _ (SS.out _ B8x.out) (fun hHeld8 => ?_)
                    clear hK K hHeld7
                    try simp only [Act.put, List.setIfInBounds_toArray, List.set_cons_zero, List.set_cons_succ]
                    refine wpAnyH_take (i := 40) (oi := ⟨some 49, .binOp .eql 38 (.tmp 48) (.const Value.nilIface) 38, 4, "law.go:34", #[⟨39, .data⟩, ⟨37, .guard⟩], some (37, true)⟩) (v := ?vz325_40) rfl (by kernel_rfl) (by kernel_rfl) (by kernel_rfl) (fun _ _ _ h => h) (Or.inl ⟨by rfl, ?yz325_40⟩) (by assumption) ?rz325_40
                    case yz325_40 => (intro w' hSw; (try dsimp only at hSw); go_simp; try with_reducible rfl)
                    try simp only [Act.put, List.setIfInBounds_toArray, List.set_cons_zero, List.set_cons_succ]
                    refine wpAnyH_take (i := 41) (oi := ⟨some 50, .pick (.tmp 46) (.tmp 49) (.const (Value.bool false)), 4, "law.go:34", #[⟨37, .data⟩, ⟨40, .data⟩], none⟩) (v := ?vz326_41) rfl (by kernel_rfl) (by kernel_rfl) (by kernel_rfl) (fun _ _ _ h => h) (Or.inl ⟨by rfl, ?yz326_41⟩) (by assumption) ?rz326_41
                    case yz326_41 => (intro w' hSw; (try dsimp only at hSw); go_simp; try with_reducible rfl)
                    try simp only [Act.put, List.setIfInBounds_toArray, List.set_cons_zero, List.set_cons_succ]
                    refine wpAnyH_take (i := 42) (oi := ⟨some 51, .move (.tmp 50), 4, "law.go:34", #[⟨41, .data⟩, ⟨39, .chain⟩], none⟩) (v := ?vz327_42) rfl (by kernel_rfl) (by kernel_rfl) (by kernel_rfl) (fun _ _ _ h => h) (Or.inl ⟨by rfl, ?yz327_42⟩) (by assumption) ?rz327_42
                    case yz327_42 => (intro w' hSw; (try dsimp only at hSw); go_simp; try with_reducible rfl)
                    try simp only [Act.put, List.setIfInBounds_toArray, List.set_cons_zero, List.set_cons_succ]
                    refine wpAnyH_take (i := 43) (oi := ⟨some 52, .move (.tmp 3), 23, "law.go:34", #[⟨42, .guard⟩], some (42, true)⟩) (v := undef) rfl (by kernel_rfl) (by kernel_rfl) (by kernel_rfl) (fun _ _ _ h => h) (Or.inr ⟨by rfl, rfl⟩) (by assumption) ?_
                    try simp only [Act.put, List.setIfInBounds_toArray, List.set_cons_zero, List.set_cons_succ]
                    refine wpAnyH_take (i := 44) (oi := ⟨some 53, .call { callee := .value (.func 29), args := #[.tmp 52], argTypes := #[23] }, 38, "law.go:34", #[⟨43, .data⟩, ⟨42, .chain⟩, ⟨42, .guard⟩], some (42, true)⟩) (v := undef) rfl (by kernel_rfl) (by kernel_rfl) (by kernel_rfl) (fun _ _ _ h => h) (Or.inr ⟨by rfl, rfl⟩) (by assumption) ?_
                    try simp only [Act.put, List.setIfInBounds_toArray, List.set_cons_zero, List.set_cons_succ]
                    refine wpAnyH_take (i := 45) (oi := ⟨some 54, .binOp .eql 38 (.tmp 53) (.const Value.nilIface) 38, 4, "law.go:34", #[⟨44, .data⟩, ⟨42, .guard⟩], some (42, true)⟩) (v := undef) rfl (by kernel_rfl) (by kernel_rfl) (by kernel_rfl) (fun _ _ _ h => h) (Or.inr ⟨by rfl, rfl⟩) (by assumption) ?_
                    try simp only [Act.put, List.setIfInBounds_toArray, List.set_cons_zero, List.set_cons_succ]
                    refine wpAnyH_take (i := 46) (oi := ⟨some 55, .pick (.tmp 51) (.tmp 54) (.const (Value.bool false)), 4, "law.go:34", #[⟨42, .data⟩, ⟨45, .data⟩], none⟩) (v := ?vz331_46) rfl (by kernel_rfl) (by kernel_rfl) (by kernel_rfl) (fun _ _ _ h => h) (Or.inl ⟨by rfl, ?yz331_46⟩) (by assumption) ?rz331_46
                    case yz331_46 => (intro w' hSw; (try dsimp only at hSw); go_simp; try with_reducible rfl)
                    try simp only [Act.put, List.setIfInBounds_toArray, List.set_cons_zero, List.set_cons_succ]
                    refine wpAnyH_take (i := 47) (oi := ⟨some 56, .move (.tmp 55), 4, "law.go:34", #[⟨46, .data⟩, ⟨44, .chain⟩], none⟩) (v := ?vz332_47) rfl (by kernel_rfl) (by kernel_rfl) (by kernel_rfl) (fun _ _ _ h => h) (Or.inl ⟨by rfl, ?yz332_47⟩) (by assumption) ?rz332_47
                    case yz332_47 => (intro w' hSw; (try dsimp only at hSw); go_simp; try with_reducible rfl)
                    try simp only [Act.put, List.setIfInBounds_toArray, List.set_cons_zero, List.set_cons_succ]
                    refine wpAnyH_take (i := 48) (oi := ⟨some 57, .fieldAddr 27 (.tmp 5) 1, 0, "law.go:34", #[⟨47, .guard⟩], some (47, true)⟩) (v := undef) rfl (by kernel_rfl) (by kernel_rfl) (by kernel_rfl) (fun _ _ _ h => h) (Or.inr ⟨by rfl, rfl⟩) (by assumption) ?_
                    try simp only [Act.put, List.setIfInBounds_toArray, List.set_cons_zero, List.set_cons_succ]
                    refine wpAnyH_take (i := 49) (oi := ⟨some 58, .load 24 (.tmp 57), 24, "law.go:34", #[⟨48, .data⟩, ⟨47, .guard⟩], some (47, true)⟩) (v := undef) rfl (by kernel_rfl) (by kernel_rfl) (by kernel_rfl) (fun _ _ _ h => h) (Or.inr ⟨by rfl, rfl⟩) (by assumption) ?_
                    try simp only [Act.put, List.setIfInBounds_toArray, List.set_cons_zero, List.set_cons_succ]
                    refine wpAnyH_take (i := 50) (oi := ⟨some 59, .call { callee := .value (.func 31), args := #[.tmp 58], argTypes := #[24] }, 38, "law.go:34", #[⟨49, .data⟩, ⟨47, .chain⟩, ⟨47, .guard⟩], some (47, true)⟩) (v := undef) rfl (by kernel_rfl) (by kernel_rfl) (by kernel_rfl) (fun _ _ _ h => h) (Or.inr ⟨by rfl, rfl⟩) (by assumption) ?_
                    try simp only [Act.put, List.setIfInBounds_toArray, List.set_cons_zero, List.set_cons_succ]
                    refine wpAnyH_take (i := 51) (oi := ⟨some 60, .binOp .eql 38 (.tmp 59) (.const Value.nilIface) 38, 4, "law.go:34", #[⟨50, .data⟩, ⟨47, .guard⟩], some (47, true)⟩) (v := undef) rfl (by kernel_rfl) (by kernel_rfl) (by kernel_rfl) (fun _ _ _ h => h) (Or.inr ⟨by rfl, rfl⟩) (by assumption) ?_
                    try simp only [Act.put, List.setIfInBounds_toArray, List.set_cons_zero, List.set_cons_succ]
                    refine wpAnyH_take (i := 52) (oi := ⟨some 61, .pick (.tmp 56) (.tmp 60) (.const (Value.bool false)), 4, "law.go:34", #[⟨47, .data⟩, ⟨51, .data⟩], none⟩) (v := ?vz337_52) rfl (by kernel_rfl) (by kernel_rfl) (by kernel_rfl) (fun _ _ _ h => h) (Or.inl ⟨by rfl, ?yz337_52⟩) (by assumption) ?rz337_52
                    case yz337_52 => (intro w' hSw; (try dsimp only at hSw); go_simp; try with_reducible rfl)
                    try simp only [Act.put, List.setIfInBounds_toArray, List.set_cons_zero, List.set_cons_succ]
                    refine wpAnyH_take (i := 53) (oi := ⟨some 62, .move (.tmp 61), 4, "law.go:34", #[⟨52, .data⟩, ⟨50, .chain⟩], none⟩) (v := ?vz338_53) rfl (by kernel_rfl) (by kernel_rfl) (by kernel_rfl) (fun _ _ _ h => h) (Or.inl ⟨by rfl, ?yz338_53⟩) (by assumption) ?rz338_53
                    case yz338_53 => (intro w' hSw; (try dsimp only at hSw); go_simp; try with_reducible rfl)
                    try simp only [Act.put, List.setIfInBounds_toArray, List.set_cons_zero, List.set_cons_succ]
                    refine wpAnyH_take (i := 54) (oi := ⟨some 63, .fieldAddr 27 (.tmp 5) 1, 0, "law.go:34", #[⟨53, .guard⟩], some (53, true)⟩) (v := undef) rfl (by kernel_rfl) (by kernel_rfl) (by kernel_rfl) (fun _ _ _ h => h) (Or.inr ⟨by rfl, rfl⟩) (by assumption) ?_
                    try simp only [Act.put, List.setIfInBounds_toArray, List.set_cons_zero, List.set_cons_succ]
                    refine wpAnyH_take (i := 55) (oi := ⟨some 64, .load 24 (.tmp 63), 24, "law.go:34", #[⟨54, .data⟩, ⟨53, .guard⟩], some (53, true)⟩) (v := undef) rfl (by kernel_rfl) (by kernel_rfl) (by kernel_rfl) (fun _ _ _ h => h) (Or.inr ⟨by rfl, rfl⟩) (by assumption) ?_
                    try simp only [Act.put, List.setIfInBounds_toArray, List.set_cons_zero, List.set_cons_succ]
                    refine wpAnyH_take (i := 57) (oi := ⟨some 66, .fieldAddr 27 (.tmp 5) 2, 0, "law.go:34", #[⟨53, .guard⟩], some (53, true)⟩) (v := undef) rfl (by kernel_rfl) (by kernel_rfl) (by kernel_rfl) (fun _ _ _ h => h) (Or.inr ⟨by rfl, rfl⟩) (by assumption) ?_
                    try simp only [Act.put, List.setIfInBounds_toArray, List.set_cons_zero, List.set_cons_succ]
                    refine wpAnyH_take (i := 58) (oi := ⟨some 67, .load 25 (.tmp 66), 25, "law.go:34", #[⟨57, .data⟩, ⟨53, .guard⟩], some (53, true)⟩) (v := undef) rfl (by kernel_rfl) (by kernel_rfl) (by kernel_rfl) (fun _ _ _ h => h) (Or.inr ⟨by rfl, rfl⟩) (by assumption) ?_
                    try simp only [Act.put, List.setIfInBounds_toArray, List.set_cons_zero, List.set_cons_succ]
                    refine wpAnyH_take (i := 56) (oi := ⟨some 65, .call { callee := .value (.func 32), args := #[.tmp 64], argTypes := #[24] }, 25, "law.go:34", #[⟨55, .data⟩, ⟨53, .chain⟩, ⟨53, .guard⟩], some (53, true)⟩) (v := undef) rfl (by kernel_rfl) (by kernel_rfl) (by kernel_rfl) (fun _ _ _ h => h) (Or.inr ⟨by rfl, rfl⟩) (by assumption) ?_
                    try simp only [Act.put, List.setIfInBounds_toArray, List.set_cons_zero, List.set_cons_succ]
                    refine wpAnyH_take (i := 59) (oi := ⟨some 68, .call { callee := .value (.func 14), args := #[.tmp 65, .tmp 67], argTypes := #[25, 25] }, 4, "law.go:34", #[⟨56, .data⟩, ⟨58, .data⟩, ⟨56, .chain⟩, ⟨53, .guard⟩], some (53, true)⟩) (v := undef) rfl (by kernel_rfl) (by kernel_rfl) (by kernel_rfl) (fun _ _ _ h => h) (Or.inr ⟨by rfl, rfl⟩) (by assumption) ?_
                    try simp only [Act.put, List.setIfInBounds_toArray, List.set_cons_zero, List.set_cons_succ]
                    refine wpAnyH_take (i := 60) (oi := ⟨some 69, .pick (.tmp 62) (.tmp 68) (.const (Value.bool false)), 4, "law.go:34", #[⟨53, .data⟩, ⟨59, .data⟩], none⟩) (v := ?vz345_60) rfl (by kernel_rfl) (by kernel_rfl) (by kernel_rfl) (fun _ _ _ h => h) (Or.inl ⟨by rfl, ?yz345_60⟩) (by assumption) ?rz345_60
                    case yz345_60 => (intro w' hSw; (try dsimp only at hSw); go_simp; try with_reducible rfl)
                    try simp only [Act.put, List.setIfInBounds_toArray, List.set_cons_zero, List.set_cons_succ]
                    refine wpAnyH_take (i := 61) (oi := ⟨some 8, .assign (.tmp 69), 4, "law.go:34", #[⟨60, .data⟩, ⟨59, .chain⟩, ⟨0, .phase⟩, ⟨1, .phase⟩, ⟨2, .phase⟩, ⟨3, .phase⟩, ⟨4, .phase⟩, ⟨5, .phase⟩, ⟨6, .phase⟩, ⟨7, .phase⟩, ⟨8, .phase⟩, ⟨9, .phase⟩, ⟨10, .phase⟩, ⟨11, .phase⟩, ⟨12, .phase⟩, ⟨13, .phase⟩, ⟨14, .phase⟩, ⟨15, .phase⟩, ⟨16, .phase⟩, ⟨17, .phase⟩, ⟨18, .phase⟩, ⟨19, .phase⟩, ⟨20, .phase⟩, ⟨21, .phase⟩, ⟨22, .phase⟩, ⟨23, .phase⟩, ⟨24, .phase⟩, ⟨25, .phase⟩, ⟨26, .phase⟩, ⟨27, .phase⟩, ⟨28, .phase⟩, ⟨29, .phase⟩, ⟨30, .phase⟩, ⟨31, .phase⟩, ⟨32, .phase⟩, ⟨33, .phase⟩, ⟨34, .phase⟩, ⟨35, .phase⟩, ⟨36, .phase⟩, ⟨37, .phase⟩, ⟨38, .phase⟩, ⟨39, .phase⟩, ⟨40, .phase⟩, ⟨41, .phase⟩, ⟨42, .phase⟩, ⟨43, .phase⟩, ⟨44, .phase⟩, ⟨45, .phase⟩, ⟨46, .phase⟩, ⟨47, .phase⟩, ⟨48, .phase⟩, ⟨49, .phase⟩, ⟨50, .phase⟩, ⟨51, .phase⟩, ⟨52, .phase⟩, ⟨53, .phase⟩, ⟨54, .phase⟩, ⟨55, .phase⟩, ⟨56, .phase⟩, ⟨57, .phase⟩, ⟨58, .phase⟩, ⟨59, .phase⟩, ⟨60, .phase⟩], none⟩) (v := ?vz346_61) rfl (by kernel_rfl) (by kernel_rfl) (by kernel_rfl) (fun _ _ _ h => h) (Or.inl ⟨by rfl, ?yz346_61⟩) (by assumption) ?rz346_61
                    case yz346_61 => (intro w' hSw; (try dsimp only at hSw); go_simp; try with_reducible rfl)
                    try simp only [Act.put, List.setIfInBounds_toArray, List.set_cons_zero, List.set_cons_succ]
                    refine wpAnyH_done (by kernel_rfl) ?_ _
                    go_wp2_with fail
                    go_ret
                    exact ⟨false, rfl, (fun h => by cases h), HB0.out.trans (Below.mono (by first | exact B8x.out | exact B8x.out.drew | exact below_drewN B8x.out _) HB0.out.size)⟩
                · have B7x := Lib.hid bb
                  clear bb
                  go_wp2_with fail
                  refine hK.out _ _ (SS.out _ B7x.out) (fun hHeld7 => ?_)
                  clear hK K hHeld6
                  try simp only [Act.put, List.setIfInBounds_toArray, List.set_cons_zero, List.set_cons_succ]
                  refine wpAnyH_take (i := 35) (oi := ⟨some 44, .binOp .eql 38 (.tmp 43) (.const Value.nilIface) 38, 4, "law.go:34", #[⟨34, .data⟩, ⟨31, .guard⟩], some (31, true)⟩) (v := ?vz347_35) rfl (by kernel_rfl) (by kernel_rfl) (by kernel_rfl) (fun _ _ _ h => h) (Or.inl ⟨by rfl, ?yz347_35⟩) (by assumption) ?rz347_35
                  case yz347_35 => (intro w' hSw; (try dsimp only at hSw); go_simp; try with_reducible rfl)
                  try simp only [Act.put, List.setIfInBounds_toArray, List.set_cons_zero, List.set_cons_succ]
                  refine wpAnyH_take (i := 36) (oi := ⟨some 45, .pick (.tmp 40) (.tmp 44) (.const (Value.bool false)), 4, "law.go:34", #[⟨31, .data⟩, ⟨35, .data⟩], none⟩) (v := ?vz348_36) rfl (by kernel_rfl) (by kernel_rfl) (by kernel_rfl) (fun _ _ _ h => h) (Or.inl ⟨by rfl, ?yz348_36⟩) (by assumption) ?rz348_36
                  case yz348_36 => (intro w' hSw; (try dsimp only at hSw); go_simp; try with_reducible rfl)
                  try simp only [Act.put, List.setIfInBounds_toArray, List.set_cons_zero, List.set_cons_succ]
                  refine wpAnyH_take (i := 37) (oi := ⟨some 46, .move (.tmp 45), 4, "law.go:34", #[⟨36, .data⟩, ⟨34, .chain⟩], none⟩) (v := ?vz349_37) rfl (by kernel_rfl) (by kernel_rfl) (by kernel_rfl) (fun _ _ _ h => h) (Or.inl ⟨by rfl, ?yz349_37⟩) (by assumption) ?rz349_37
                  case yz349_37 => (intro w' hSw; (try dsimp only at hSw); go_simp; try with_reducible rfl)
                  try simp only [Act.put, List.setIfInBounds_toArray, List.set_cons_zero, List.set_cons_succ]
                  refine wpAnyH_take (i := 38) (oi := ⟨some 47, .move (.tmp 2), 24, "law.go:34", #[⟨37, .guard⟩], some (37, true)⟩) (v := undef) rfl (by kernel_rfl) (by kernel_rfl) (by kernel_rfl) (fun _ _ _ h => h) (Or.inr ⟨by rfl, rfl⟩) (by assumption) ?_
                  try simp only [Act.put, List.setIfInBounds_toArray, List.set_cons_zero, List.set_cons_succ]
                  refine wpAnyH_take (i := 39) (oi := ⟨some 48, .call { callee := .value (.func 31), args := #[.tmp 47], argTypes := #[24] }, 38, "law.go:34", #[⟨38, .data⟩, ⟨37, .chain⟩, ⟨37, .guard⟩], some (37, true)⟩) (v := undef) rfl (by kernel_rfl) (by kernel_rfl) (by kernel_rfl) (fun _ _ _ h => h) (Or.inr ⟨by rfl, rfl⟩) (by assumption) ?_
                  try simp only [Act.put, List.setIfInBounds_toArray, List.set_cons_zero, List.set_cons_succ]
                  refine wpAnyH_take (i := 40) (oi := ⟨some 49, .binOp .eql 38 (.tmp 48) (.const Value.nilIface) 38, 4, "law.go:34", #[⟨39, .data⟩, ⟨37, .guard⟩], some (37, true)⟩) (v := undef) rfl (by kernel_rfl) (by kernel_rfl) (by kernel_rfl) (fun _ _ _ h => h) (Or.inr ⟨by rfl, rfl⟩) (by assumption) ?_
                  try simp only [Act.put, List.setIfInBounds_toArray, List.set_cons_zero, List.set_cons_succ]
                  refine wpAnyH_take (i := 41) (oi := ⟨some 50, .pick (.tmp 46) (.tmp 49) (.const (Value.bool false)), 4, "law.go:34", #[⟨37, .data⟩, ⟨40, .data⟩], none⟩) (v := ?vz353_41) rfl (by kernel_rfl) (by kernel_rfl) (by kernel_rfl) (fun _ _ _ h => h) (Or.inl ⟨by rfl, ?yz353_41⟩) (by assumption) ?rz353_41
                  case yz353_41 => (intro w' hSw; (try dsimp only at hSw); go_simp; try with_reducible rfl)
                  try simp only [Act.put, List.setIfInBounds_toArray, List.set_cons_zero, List.set_cons_succ]
                  refine wpAnyH_take (i := 42) (oi := ⟨some 51, .move (.tmp 50), 4, "law.go:34", #[⟨41, .data⟩, ⟨39, .chain⟩], none⟩) (v := ?vz354_42) rfl (by kernel_rfl) (by kernel_rfl) (by kernel_rfl) (fun _ _ _ h => h) (Or.inl ⟨by rfl, ?yz354_42⟩) (by assumption) ?rz354_42
                  case yz354_42 => (intro w' hSw; (try dsimp only at hSw); go_simp; try with_reducible rfl)
                  try simp only [Act.put, List.setIfInBounds_toArray, List.set_cons_zero, List.set_cons_succ]
                  refine wpAnyH_take (i := 43) (oi := ⟨some 52, .move (.tmp 3), 23, "law.go:34", #[⟨42, .guard⟩], some (42, true)⟩) (v := undef) rfl (by kernel_rfl) (by kernel_rfl) (by kernel_rfl) (fun _ _ _ h => h) (Or.inr ⟨by rfl, rfl⟩) (by assumption) ?_
                  try simp only [Act.put, List.setIfInBounds_toArray, List.set_cons_zero, List.set_cons_succ]
                  refine wpAnyH_take (i := 44) (oi := ⟨some 53, .call { callee := .value (.func 29), args := #[.tmp 52], argTypes := #[23] }, 38, "law.go:34", #[⟨43, .data⟩, ⟨42, .chain⟩, ⟨42, .guard⟩], some (42, true)⟩) (v := undef) rfl (by kernel_rfl) (by kernel_rfl) (by kernel_rfl) (fun _ _ _ h => h) (Or.inr ⟨by rfl, rfl⟩) (by assumption) ?_
                  try simp only [Act.put, List.setIfInBounds_toArray, List.set_cons_zero, List.set_cons_succ]
                  refine wpAnyH_take (i := 45) (oi := ⟨some 54, .binOp .eql 38 (.tmp 53) (.const Value.nilIface) 38, 4, "law.go:34", #[⟨44, .data⟩, ⟨42, .guard⟩], some (42, true)⟩) (v := undef) rfl (by kernel_rfl) (by kernel_rfl) (by kernel_rfl) (fun _ _ _ h => h) (Or.inr ⟨by rfl, rfl⟩) (by assumption) ?_
                  try simp only [Act.put, List.setIfInBounds_toArray, List.set_cons_zero, List.set_cons_succ]
                  refine wpAnyH_take (i := 46) (oi := ⟨some 55, .pick (.tmp 51) (.tmp 54) (.const (Value.bool false)), 4, "law.go:34", #[⟨42, .data⟩, ⟨45, .data⟩], none⟩) (v := ?vz358_46) rfl (by kernel_rfl) (by kernel_rfl) (by kernel_rfl) (fun _ _ _ h => h) (Or.inl ⟨by rfl, ?yz358_46⟩) (by assumption) ?rz358_46
                  case yz358_46 => (intro w' hSw; (try dsimp only at hSw); go_simp; try with_reducible rfl)
                  try simp only [Act.put, List.setIfInBounds_toArray, List.set_cons_zero, List.set_cons_succ]
                  refine wpAnyH_take (i := 47) (oi := ⟨some 56, .move (.tmp 55), 4, "law.go:34", #[⟨46, .data⟩, ⟨44, .chain⟩], none⟩) (v := ?vz359_47) rfl (by kernel_rfl) (by kernel_rfl) (by kernel_rfl) (fun _ _ _ h => h) (Or.inl ⟨by rfl, ?yz359_47⟩) (by assumption) ?rz359_47
                  case yz359_47 => (intro w' hSw; (try dsimp only at hSw); go_simp; try with_reducible rfl)
                  try simp only [Act.put, List.setIfInBounds_toArray, List.set_cons_zero, List.set_cons_succ]
                  refine wpAnyH_take (i := 48) (oi := ⟨some 57, .fieldAddr 27 (.tmp 5) 1, 0, "law.go:34", #[⟨47, .guard⟩], some (47, true)⟩) (v := undef) rfl (by kernel_rfl) (by kernel_rfl) (by kernel_rfl) (fun _ _ _ h => h) (Or.inr ⟨by rfl, rfl⟩) (by assumption) ?_
                  try simp only [Act.put, List.setIfInBounds_toArray, List.set_cons_zero, List.set_cons_succ]
                  refine wpAnyH_take (i := 49) (oi := ⟨some 58, .load 24 (.tmp 57), 24, "law.go:34", #[⟨48, .data⟩, ⟨47, .guard⟩], some (47, true)⟩) (v := undef) rfl (by kernel_rfl) (by kernel_rfl) (by kernel_rfl) (fun _ _ _ h => h) (Or.inr ⟨by rfl, rfl⟩) (by assumption) ?_
                  try simp only [Act.put, List.setIfInBounds_toArray, List.set_cons_zero, List.set_cons_succ]
                  refine wpAnyH_take (i := 50) (oi := ⟨some 59, .call { callee := .value (.func 31), args := #[.tmp 58], argTypes := #[24] }, 38, "law.go:34", #[⟨49, .data⟩, ⟨47, .chain⟩, ⟨47, .guard⟩], some (47, true)⟩) (v := undef) rfl (by kernel_rfl) (by kernel_rfl) (by kernel_rfl) (fun _ _ _ h => h) (Or.inr ⟨by rfl, rfl⟩) (by assumption) ?_
                  try simp only [Act.put, List.setIfInBounds_toArray, List.set_cons_zero, List.set_cons_succ]
                  refine wpAnyH_take (i := 51) (oi := ⟨some 60, .binOp .eql 38 (.tmp 59) (.const Value.nilIface) 38, 4, "law.go:34", #[⟨50, .data⟩, ⟨47, .guard⟩], some (47, true)⟩) (v := undef) rfl (by kernel_rfl) (by kernel_rfl) (by kernel_rfl) (fun _ _ _ h => h) (Or.inr ⟨by rfl, rfl⟩) (by assumption) ?_
                  try simp only [Act.put, List.setIfInBounds_toArray, List.set_cons_zero, List.set_cons_succ]
                  refine wpAnyH_take (i := 52) (oi := ⟨some 61, .pick (.tmp 56) (.tmp 60) (.const (Value.bool false)), 4, "law.go:34", #[⟨47, .data⟩, ⟨51, .data⟩], none⟩) (v := ?vz364_52) rfl (by kernel_rfl) (by kernel_rfl) (by kernel_rfl) (fun _ _ _ h => h) (Or.inl ⟨by rfl, ?yz364_52⟩) (by assumption) ?rz364_52
                  case yz364_52 => (intro w' hSw; (try dsimp only at hSw); go_simp; try with_reducible rfl)
                  try simp only [Act.put, List.setIfInBounds_toArray, List.set_cons_zero, List.set_cons_succ]
                  refine wpAnyH_take (i := 53) (oi := ⟨some 62, .move (.tmp 61), 4, "law.go:34", #[⟨52, .data⟩, ⟨50, .chain⟩], none⟩) (v := ?vz365_53) rfl (by kernel_rfl) (by kernel_rfl) (by kernel_rfl) (fun _ _ _ h => h) (Or.inl ⟨by rfl, ?yz365_53⟩) (by assumption) ?rz365_53
                  case yz365_53 => (intro w' hSw; (try dsimp only at hSw); go_simp; try with_reducible rfl)
                  try simp only [Act.put, List.setIfInBounds_toArray, List.set_cons_zero, List.set_cons_succ]
                  refine wpAnyH_take (i := 54) (oi := ⟨some 63, .fieldAddr 27 (.tmp 5) 1, 0, "law.go:34", #[⟨53, .guard⟩], some (53, true)⟩) (v := undef) rfl (by kernel_rfl) (by kernel_rfl) (by kernel_rfl) (fun _ _ _ h => h) (Or.inr ⟨by rfl, rfl⟩) (by assumption) ?_
                  try simp only [Act.put, List.setIfInBounds_toArray, List.set_cons_zero, List.set_cons_succ]
                  refine wpAnyH_take (i := 55) (oi := ⟨some 64, .load 24 (.tmp 63), 24, "law.go:34", #[⟨54, .data⟩, ⟨53, .guard⟩], some (53, true)⟩) (v := undef) rfl (by kernel_rfl) (by kernel_rfl) (by kernel_rfl) (fun _ _ _ h => h) (Or.inr ⟨by rfl, rfl⟩) (by assumption) ?_
                  try simp only [Act.put, List.setIfInBounds_toArray, List.set_cons_zero, List.set_cons_succ]
                  refine wpAnyH_take (i := 57) (oi := ⟨some 66, .fieldAddr 27 (.tmp 5) 2, 0, "law.go:34", #[⟨53, .guard⟩], some (53, true)⟩) (v := undef) rfl (by kernel_rfl) (by kernel_rfl) (by kernel_rfl) (fun _ _ _ h => h) (Or.inr ⟨by rfl, rfl⟩) (by assumption) ?_
                  try simp only [Act.put, List.setIfInBounds_toArray, List.set_cons_zero, List.set_cons_succ]
                  refine wpAnyH_take (i := 58) (oi := ⟨some 67, .load 25 (.tmp 66), 25, "law.go:34", #[⟨57, .data⟩, ⟨53, .guard⟩], some (53, true)⟩) (v := undef) rfl (by kernel_rfl) (by kernel_rfl) (by kernel_rfl) (fun _ _ _ h => h) (Or.inr ⟨by rfl, rfl⟩) (by assumption) ?_
                  try simp only [Act.put, List.setIfInBounds_toArray, List.set_cons_zero, List.set_cons_succ]
                  refine wpAnyH_take (i := 56) (oi := ⟨some 65, .call { callee := .value (.func 32), args := #[.tmp 64], argTypes := #[24] }, 25, "law.go:34", #[⟨55, .data⟩, ⟨53, .chain⟩, ⟨53, .guard⟩], some (53, true)⟩) (v := undef) rfl (by kernel_rfl) (by kernel_rfl) (by kernel_rfl) (fun _ _ _ h => h) (Or.inr ⟨by rfl, rfl⟩) (by assumption) ?_
                  try simp only [Act.put, List.setIfInBounds_toArray, List.set_cons_zero, List.set_cons_succ]
                  refine wpAnyH_take (i := 59) (oi := ⟨some 68, .call { callee := .value (.func 14), args := #[.tmp 65, .tmp 67], argTypes := #[25, 25] }, 4, "law.go:34", #[⟨56, .data⟩, ⟨58, .data⟩, ⟨56, .chain⟩, ⟨53, .guard⟩], some (53, true)⟩) (v := undef) rfl (by kernel_rfl) (by kernel_rfl) (by kernel_rfl) (fun _ _ _ h => h) (Or.inr ⟨by rfl, rfl⟩) (by assumption) ?_
                  try simp only [Act.put, List.setIfInBounds_toArray, List.set_cons_zero, List.set_cons_succ]
                  refine wpAnyH_take (i := 60) (oi := ⟨some 69, .pick (.tmp 62) (.tmp 68) (.const (Value.bool false)), 4, "law.go:34", #[⟨53, .data⟩, ⟨59, .data⟩], none⟩) (v := ?vz372_60) rfl (by kernel_rfl) (by kernel_rfl) (by kernel_rfl) (fun _ _ _ h => h) (Or.inl ⟨by rfl, ?yz372_60⟩) (by assumption) ?rz372_60
                  case yz372_60 => (intro w' hSw; (try dsimp only at hSw); go_simp; try with_reducible rfl)
                  try simp only [Act.put, List.setIfInBounds_toArray, List.set_cons_zero, List.set_cons_succ]
                  refine wpAnyH_take (i := 61) (oi := ⟨some 8, .assign (.tmp 69), 4, "law.go:34", #[⟨60, .data⟩, ⟨59, .chain⟩, ⟨0, .phase⟩, ⟨1, .phase⟩, ⟨2, .phase⟩, ⟨3, .phase⟩, ⟨4, .phase⟩, ⟨5, .phase⟩, ⟨6, .phase⟩, ⟨7, .phase⟩, ⟨8, .phase⟩, ⟨9, .phase⟩, ⟨10, .phase⟩, ⟨11, .phase⟩, ⟨12, .phase⟩, ⟨13, .phase⟩, ⟨14, .phase⟩, ⟨15, .phase⟩, ⟨16, .phase⟩, ⟨17, .phase⟩, ⟨18, .phase⟩, ⟨19, .phase⟩, ⟨20, .phase⟩, ⟨21, .phase⟩, ⟨22, .phase⟩, ⟨23, .phase⟩, ⟨24, .phase⟩, ⟨25, .phase⟩, ⟨26, .phase⟩, ⟨27, .phase⟩, ⟨28, .phase⟩, ⟨29, .phase⟩, ⟨30, .phase⟩, ⟨31, .phase⟩, ⟨32, .phase⟩, ⟨33, .phase⟩, ⟨34, .phase⟩, ⟨35, .phase⟩, ⟨36, .phase⟩, ⟨37, .phase⟩, ⟨38, .phase⟩, ⟨39, .phase⟩, ⟨40, .phase⟩, ⟨41, .phase⟩, ⟨42, .phase⟩, ⟨43, .phase⟩, ⟨44, .phase⟩, ⟨45, .phase⟩, ⟨46, .phase⟩, ⟨47, .phase⟩, ⟨48, .phase⟩, ⟨49, .phase⟩, ⟨50, .phase⟩, ⟨51, .phase⟩, ⟨52, .phase⟩, ⟨53, .phase⟩, ⟨54, .phase⟩, ⟨55, .phase⟩, ⟨56, .phase⟩, ⟨57, .phase⟩, ⟨58, .phase⟩, ⟨59, .phase⟩, ⟨60, .phase⟩], none⟩) (v := ?vz373_61) rfl (by kernel_rfl) (by kernel_rfl) (by kernel_rfl) (fun _ _ _ h => h) (Or.inl ⟨by rfl, ?yz373_61⟩) (by assumption) ?rz373_61
                  case yz373_61 => (intro w' hSw; (try dsimp only at hSw); go_simp; try with_reducible rfl)
                  try simp only [Act.put, List.setIfInBounds_toArray, List.set_cons_zero, List.set_cons_succ]
                  refine wpAnyH_done (by kernel_rfl) ?_ _
                  go_wp2_with fail
                  go_ret
                  exact ⟨false, rfl, (fun h => by cases h), HB0.out.trans (Below.mono (by first | exact B7x.out | exact B7x.out.drew | exact below_drewN B7x.out _) HB0.out.size)⟩
              · have B6x := Lib.hid bb
                clear bb
                go_wp2_with fail
                refine hK.out _ _ (SS.out _ B6x.out) (fun hHeld6 => ?_)
                clear hK K hHeld5
                try simp only [Act.put, List.setIfInBounds_toArray, List.set_cons_zero, List.set_cons_succ]
                refine wpAnyH_take (i := 29) (oi := ⟨some 38, .binOp .eql 38 (.tmp 37) (.const Value.nilIface) 38, 4, "law.go:34", #[⟨28, .data⟩, ⟨26, .guard⟩], some (26, true)⟩) (v := ?vz374_29) rfl (by kernel_rfl) (by kernel_rfl) (by kernel_rfl) (fun _ _ _ h => h) (Or.inl ⟨by rfl, ?yz374_29⟩) (by assumption) ?rz374_29
                case yz374_29 => (intro w' hSw; (try dsimp only at hSw); go_simp; try with_reducible rfl)
                try simp only [Act.put, List.setIfInBounds_toArray, List.set_cons_zero, List.set_cons_succ]
                refine wpAnyH_take (i := 30) (oi := ⟨some 39, .pick (.tmp 35) (.tmp 38) (.const (Value.bool false)), 4, "law.go:34", #[⟨26, .data⟩, ⟨29, .data⟩], none⟩) (v := ?vz375_30) rfl (by kernel_rfl) (by kernel_rfl) (by kernel_rfl) (fun _ _ _ h => h) (Or.inl ⟨by rfl, ?yz375_30⟩) (by assumption) ?rz375_30
                case yz375_30 => (intro w' hSw; (try dsimp only at hSw); go_simp; try with_reducible rfl)
                try simp only [Act.put, List.setIfInBounds_toArray, List.set_cons_zero, List.set_cons_succ]
                refine wpAnyH_take (i := 31) (oi := ⟨some 40, .move (.tmp 39), 4, "law.go:34", #[⟨30, .data⟩, ⟨28, .chain⟩], none⟩) (v := ?vz376_31) rfl (by kernel_rfl) (by kernel_rfl) (by kernel_rfl) (fun _ _ _ h => h) (Or.inl ⟨by rfl, ?yz376_31⟩) (by assumption) ?rz376_31
                case yz376_31 => (intro w' hSw; (try dsimp only at hSw); go_simp; try with_reducible rfl)
                try simp only [Act.put, List.setIfInBounds_toArray, List.set_cons_zero, List.set_cons_succ]
                refine wpAnyH_take (i := 32) (oi := ⟨some 41, .fieldAddr 27 (.tmp 5) 0, 0, "law.go:34", #[⟨31, .guard⟩], some (31, true)⟩) (v := undef) rfl (by kernel_rfl) (by kernel_rfl) (by kernel_rfl) (fun _ _ _ h => h) (Or.inr ⟨by rfl, rfl⟩) (by assumption) ?_
                try simp only [Act.put, List.setIfInBounds_toArray, List.set_cons_zero, List.set_cons_succ]
                refine wpAnyH_take (i := 33) (oi := ⟨some 42, .load 23 (.tmp 41), 23, "law.go:34", #[⟨32, .data⟩, ⟨31, .guard⟩], some (31, true)⟩) (v := undef) rfl (by kernel_rfl) (by kernel_rfl) (by kernel_rfl) (fun _ _ _ h => h) (Or.inr ⟨by rfl, rfl⟩) (by assumption) ?_
                try simp only [Act.put, List.setIfInBounds_toArray, List.set_cons_zero, List.set_cons_succ]
                refine wpAnyH_take (i := 34) (oi := ⟨some 43, .call { callee := .value (.func 29), args := #[.tmp 42], argTypes := #[23] }, 38, "law.go:34", #[⟨33, .data⟩, ⟨31, .chain⟩, ⟨31, .guard⟩], some (31, true)⟩) (v := undef) rfl (by kernel_rfl) (by kernel_rfl) (by kernel_rfl) (fun _ _ _ h => h) (Or.inr ⟨by rfl, rfl⟩) (by assumption) ?_
                try simp only [Act.put, List.setIfInBounds_toArray, List.set_cons_zero, List.set_cons_succ]
                refine wpAnyH_take (i := 35) (oi := ⟨some 44, .binOp .eql 38 (.tmp 43) (.const Value.nilIface) 38, 4, "law.go:34", #[⟨34, .data⟩, ⟨31, .guard⟩], some (31, true)⟩) (v := undef) rfl (by kernel_rfl) (by kernel_rfl) (by kernel_rfl) (fun _ _ _ h => h) (Or.inr ⟨by rfl, rfl⟩) (by assumption) ?_
                try simp only [Act.put, List.setIfInBounds_toArray, List.set_cons_zero, List.set_cons_succ]
                refine wpAnyH_take (i := 36) (oi := ⟨some 45, .pick (.tmp 40) (.tmp 44) (.const (Value.bool false)), 4, "law.go:34", #[⟨31, .data⟩, ⟨35, .data⟩], none⟩) (v := ?vz381_36) rfl (by kernel_rfl) (by kernel_rfl) (by kernel_rfl) (fun _ _ _ h => h) (Or.inl ⟨by rfl, ?yz381_36⟩) (by assumption) ?rz381_36
                case yz381_36 => (intro w' hSw; (try dsimp only at hSw); go_simp; try with_reducible rfl)
                try simp only [Act.put, List.setIfInBounds_toArray, List.set_cons_zero, List.set_cons_succ]
                refine wpAnyH_take (i := 37) (oi := ⟨some 46, .move (.tmp 45), 4, "law.go:34", #[⟨36, .data⟩, ⟨34, .chain⟩], none⟩) (v := ?vz382_37) rfl (by kernel_rfl) (by kernel_rfl) (by kernel_rfl) (fun _ _ _ h => h) (Or.inl ⟨by rfl, ?yz382_37⟩) (by assumption) ?rz382_37
                case yz382_37 => (intro w' hSw; (try dsimp only at hSw); go_simp; try with_reducible rfl)
                try simp only [Act.put, List.setIfInBounds_toArray, List.set_cons_zero, List.set_cons_succ]
                refine wpAnyH_take (i := 38) (oi := ⟨some 47, .move (.tmp 2), 24, "law.go:34", #[⟨37, .guard⟩], some (37, true)⟩) (v := undef) rfl (by kernel_rfl) (by kernel_rfl) (by kernel_rfl) (fun _ _ _ h => h) (Or.inr ⟨by rfl, rfl⟩) (by assumption) ?_
                try simp only [Act.put, List.setIfInBounds_toArray, List.set_cons_zero, List.set_cons_succ]
                refine wpAnyH_take (i := 39) (oi := ⟨some 48, .call { callee := .value (.func 31), args := #[.tmp 47], argTypes := #[24] }, 38, "law.go:34", #[⟨38, .data⟩, ⟨37, .chain⟩, ⟨37, .guard⟩], some (37, true)⟩) (v := undef) rfl (by kernel_rfl) (by kernel_rfl) (by kernel_rfl) (fun _ _ _ h => h) (Or.inr ⟨by rfl, rfl⟩) (by assumption) ?_
                try simp only [Act.put, List.setIfInBounds_toArray, List.set_cons_zero, List.set_cons_succ]
                refine wpAnyH_take (i := 40) (oi := ⟨some 49, .binOp .eql 38 (.tmp 48) (.const Value.nilIface) 38, 4, "law.go:34", #[⟨39, .data⟩, ⟨37, .guard⟩], some (37, true)⟩) (v := undef) rfl (by kernel_rfl) (by kernel_rfl) (by kernel_rfl) (fun _ _ _ h => h) (Or.inr ⟨by rfl, rfl⟩) (by assumption) ?_
                try simp only [Act.put, List.setIfInBounds_toArray, List.set_cons_zero, List.set_cons_succ]
                refine wpAnyH_take (i := 41) (oi := ⟨some 50, .pick (.tmp 46) (.tmp 49) (.const (Value.bool false)), 4, "law.go:34", #[⟨37, .data⟩, ⟨40, .data⟩], none⟩) (v := ?vz386_41) rfl (by kernel_rfl) (by kernel_rfl) (by kernel_rfl) (fun _ _ _ h => h) (Or.inl ⟨by rfl, ?yz386_41⟩) (by assumption) ?rz386_41
                case yz386_41 => (intro w' hSw; (try dsimp only at hSw); go_simp; try with_reducible rfl)
                try simp only [Act.put, List.setIfInBounds_toArray, List.set_cons_zero, List.set_cons_succ]
                refine wpAnyH_take (i := 42) (oi := ⟨some 51, .move (.tmp 50), 4, "law.go:34", #[⟨41, .data⟩, ⟨39, .chain⟩], none⟩) (v := ?vz387_42) rfl (by kernel_rfl) (by kernel_rfl) (by kernel_rfl) (fun _ _ _ h => h) (Or.inl ⟨by rfl, ?yz387_42⟩) (by assumption) ?rz387_42
                case yz387_42 => (intro w' hSw; (try dsimp only at hSw); go_simp; try with_reducible rfl)
                try simp only [Act.put, List.setIfInBounds_toArray, List.set_cons_zero, List.set_cons_succ]
                refine wpAnyH_take (i := 43) (oi := ⟨some 52, .move (.tmp 3), 23, "law.go:34", #[⟨42, .guard⟩], some (42, true)⟩) (v := undef) rfl (by kernel_rfl) (by kernel_rfl) (by kernel_rfl) (fun _ _ _ h => h) (Or.inr ⟨by rfl, rfl⟩) (by assumption) ?_
                try simp only [Act.put, List.setIfInBounds_toArray, List.set_cons_zero, List.set_cons_succ]
                refine wpAnyH_take (i := 44) (oi := ⟨some 53, .call { callee := .value (.func 29), args := #[.tmp 52], argTypes := #[23] }, 38, "law.go:34", #[⟨43, .data⟩, ⟨42, .chain⟩, ⟨42, .guard⟩], some (42, true)⟩) (v := undef) rfl (by kernel_rfl) (by kernel_rfl) (by kernel_rfl) (fun _ _ _ h => h) (Or.inr ⟨by rfl, rfl⟩) (by assumption) ?_
                try simp only [Act.put, List.setIfInBounds_toArray, List.set_cons_zero, List.set_cons_succ]
                refine wpAnyH_take (i := 45) (oi := ⟨some 54, .binOp .eql 38 (.tmp 53) (.const Value.nilIface) 38, 4, "law.go:34", #[⟨44, .data⟩, ⟨42, .guard⟩], some (42, true)⟩) (v := undef) rfl (by kernel_rfl) (by kernel_rfl) (by kernel_rfl) (fun _ _ _ h => h) (Or.inr ⟨by rfl, rfl⟩) (by assumption) ?_
                try simp only [Act.put, List.setIfInBounds_toArray, List.set_cons_zero, List.set_cons_succ]
                refine wpAnyH_take (i := 46) (oi := ⟨some 55, .pick (.tmp 51) (.tmp 54) (.const (Value.bool false)), 4, "law.go:34", #[⟨42, .data⟩, ⟨45, .data⟩], none⟩) (v := ?vz391_46) rfl (by kernel_rfl) (by kernel_rfl) (by kernel_rfl) (fun _ _ _ h => h) (Or.inl ⟨by rfl, ?yz391_46⟩) (by assumption) ?rz391_46
                case yz391_46 => (intro w' hSw; (try dsimp only at hSw); go_simp; try with_reducible rfl)
                try simp only [Act.put, List.setIfInBounds_toArray, List.set_cons_zero, List.set_cons_succ]
                refine wpAnyH_take (i := 47) (oi := ⟨some 56, .move (.tmp 55), 4, "law.go:34", #[⟨46, .data⟩, ⟨44, .chain⟩], none⟩) (v := ?vz392_47) rfl (by kernel_rfl) (by kernel_rfl) (by kernel_rfl) (fun _ _ _ h => h) (Or.inl ⟨by rfl, ?yz392_47⟩) (by assumption) ?rz392_47
                case yz392_47 => (intro w' hSw; (try dsimp only at hSw); go_simp; try with_reducible rfl)
                try simp only [Act.put, List.setIfInBounds_toArray, List.set_cons_zero, List.set_cons_succ]
                refine wpAnyH_take (i := 48) (oi := ⟨some 57, .fieldAddr 27 (.tmp 5) 1, 0, "law.go:34", #[⟨47, .guard⟩], some (47, true)⟩) (v := undef) rfl (by kernel_rfl) (by kernel_rfl) (by kernel_rfl) (fun _ _ _ h => h) (Or.inr ⟨by rfl, rfl⟩) (by assumption) ?_
                try simp only [Act.put, List.setIfInBounds_toArray, List.set_cons_zero, List.set_cons_succ]
                refine wpAnyH_take (i := 49) (oi := ⟨some 58, .load 24 (.tmp 57), 24, "law.go:34", #[⟨48, .data⟩, ⟨47, .guard⟩], some (47, true)⟩) (v := undef) rfl (by kernel_rfl) (by kernel_rfl) (by kernel_rfl) (fun _ _ _ h => h) (Or.inr ⟨by rfl, rfl⟩) (by assumption) ?_
                try simp only [Act.put, List.setIfInBounds_toArray, List.set_cons_zero, List.set_cons_succ]
                refine wpAnyH_take (i := 50) (oi := ⟨some 59, .call { callee := .value (.func 31), args := #[.tmp 58], argTypes := #[24] }, 38, "law.go:34", #[⟨49, .data⟩, ⟨47, .chain⟩, ⟨47, .guard⟩], some (47, true)⟩) (v := undef) rfl (by kernel_rfl) (by kernel_rfl) (by kernel_rfl) (fun _ _ _ h => h) (Or.inr ⟨by rfl, rfl⟩) (by assumption) ?_
                try simp only [Act.put, List.setIfInBounds_toArray, List.set_cons_zero, List.set_cons_succ]
                refine wpAnyH_take (i := 51) (oi := ⟨some 60, .binOp .eql 38 (.tmp 59) (.const Value.nilIface) 38, 4, "law.go:34", #[⟨50, .data⟩, ⟨47, .guard⟩], some (47, true)⟩) (v := undef) rfl (by kernel_rfl) (by kernel_rfl) (by kernel_rfl) (fun _ _ _ h => h) (Or.inr ⟨by rfl, rfl⟩) (by assumption) ?_
                try simp only [Act.put, List.setIfInBounds_toArray, List.set_cons_zero, List.set_cons_succ]
                refine wpAnyH_take (i := 52) (oi := ⟨some 61, .pick (.tmp 56) (.tmp 60) (.const (Value.bool false)), 4, "law.go:34", #[⟨47, .data⟩, ⟨51, .data⟩], none⟩) (v := ?vz397_52) rfl (by kernel_rfl) (by kernel_rfl) (by kernel_rfl) (fun _ _ _ h => h) (Or.inl ⟨by rfl, ?yz397_52⟩) (by assumption) ?rz397_52
                case yz397_52 => (intro w' hSw; (try dsimp only at hSw); go_simp; try with_reducible rfl)
                try simp only [Act.put, List.setIfInBounds_toArray, List.set_cons_zero, List.set_cons_succ]
                refine wpAnyH_take (i := 53) (oi := ⟨some 62, .move (.tmp 61), 4, "law.go:34", #[⟨52, .data⟩, ⟨50, .chain⟩], none⟩) (v := ?vz398_53) rfl (by kernel_rfl) (by kernel_rfl) (by kernel_rfl) (fun _ _ _ h => h) (Or.inl ⟨by rfl, ?yz398_53⟩) (by assumption) ?rz398_53
                case yz398_53 => (intro w' hSw; (try dsimp only at hSw); go_simp; try with_reducible rfl)
                try simp only [Act.put, List.setIfInBounds_toArray, List.set_cons_zero, List.set_cons_succ]
                refine wpAnyH_take (i := 54) (oi := ⟨some 63, .fieldAddr 27 (.tmp 5) 1, 0, "law.go:34", #[⟨53, .guard⟩], some (53, true)⟩) (v := undef) rfl (by kernel_rfl) (by kernel_rfl) (by kernel_rfl) (fun _ _ _ h => h) (Or.inr ⟨by rfl, rfl⟩) (by assumption) ?_
                try simp only [Act.put, List.setIfInBounds_toArray, List.set_cons_zero, List.set_cons_succ]
                refine wpAnyH_take (i := 55) (oi := ⟨some 64, .load 24 (.tmp 63), 24, "law.go:34", #[⟨54, .data⟩, ⟨53, .guard⟩], some (53, true)⟩) (v := undef) rfl (by kernel_rfl) (by kernel_rfl) (by kernel_rfl) (fun _ _ _ h => h) (Or.inr ⟨by rfl, rfl⟩) (by assumption) ?_
                try simp only [Act.put, List.setIfInBounds_toArray, List.set_cons_zero, List.set_cons_succ]
                refine wpAnyH_take (i := 57) (oi := ⟨some 66, .fieldAddr 27 (.tmp 5) 2, 0, "law.go:34", #[⟨53, .guard⟩], some (53, true)⟩) (v := undef) rfl (by kernel_rfl) (by kernel_rfl) (by kernel_rfl) (fun _ _ _ h => h) (Or.inr ⟨by rfl, rfl⟩) (by assumption) ?_
                try simp only [Act.put, List.setIfInBounds_toArray, List.set_cons_zero, List.set_cons_succ]
                refine wpAnyH_take (i := 58) (oi := ⟨some 67, .load 25 (.tmp 66), 25, "law.go:34", #[⟨57, .data⟩, ⟨53, .guard⟩], some (53, true)⟩) (v := undef) rfl (by kernel_rfl) (by kernel_rfl) (by kernel_rfl) (fun _ _ _ h => h) (Or.inr ⟨by rfl, rfl⟩) (by assumption) ?_
                try simp only [Act.put, List.setIfInBounds_toArray, List.set_cons_zero, List.set_cons_succ]
                refine wpAnyH_take (i := 56) (oi := ⟨some 65, .call { callee := .value (.func 32), args := #[.tmp 64], argTypes := #[24] }, 25, "law.go:34", #[⟨55, .data⟩, ⟨53, .chain⟩, ⟨53, .guard⟩], some (53, true)⟩) (v := undef) rfl (by kernel_rfl) (by kernel_rfl) (by kernel_rfl) (fun _ _ _ h => h) (Or.inr ⟨by rfl, rfl⟩) (by assumption) ?_
                try simp only [Act.put, List.setIfInBounds_toArray, List.set_cons_zero, List.set_cons_succ]
                refine wpAnyH_take (i := 59) (oi := ⟨some 68, .call { callee := .value (.func 14), args := #[.tmp 65, .tmp 67], argTypes := #[25, 25] }, 4, "law.go:34", #[⟨56, .data⟩, ⟨58, .data⟩, ⟨56, .chain⟩, ⟨53, .guard⟩], some (53, true)⟩) (v := undef) rfl (by kernel_rfl) (by kernel_rfl) (by kernel_rfl) (fun _ _ _ h => h) (Or.inr ⟨by rfl, rfl⟩) (by assumption) ?_
                try simp only [Act.put, List.setIfInBounds_toArray, List.set_cons_zero, List.set_cons_succ]
                refine wpAnyH_take (i := 60) (oi := ⟨some 69, .pick (.tmp 62) (.tmp 68) (.const (Value.bool false)), 4, "law.go:34", #[⟨53, .data⟩, ⟨59, .data⟩], none⟩) (v := ?vz405_60) rfl (by kernel_rfl) (by kernel_rfl) (by kernel_rfl) (fun _ _ _ h => h) (Or.inl ⟨by rfl, ?yz405_60⟩) (by assumption) ?rz405_60
                case yz405_60 => (intro w' hSw; (try dsimp only at hSw); go_simp; try with_reducible rfl)
                try simp only [Act.put, List.setIfInBounds_toArray, List.set_cons_zero, List.set_cons_succ]
                refine wpAnyH_take (i := 61) (oi := ⟨some 8, .assign (.tmp 69), 4, "law.go:34", #[⟨60, .data⟩, ⟨59, .chain⟩, ⟨0, .phase⟩, ⟨1, .phase⟩, ⟨2, .phase⟩, ⟨3, .phase⟩, ⟨4, .phase⟩, ⟨5, .phase⟩, ⟨6, .phase⟩, ⟨7, .phase⟩, ⟨8, .phase⟩, ⟨9, .phase⟩, ⟨10, .phase⟩, ⟨11, .phase⟩, ⟨12, .phase⟩, ⟨13, .phase⟩, ⟨14, .phase⟩, ⟨15, .phase⟩, ⟨16, .phase⟩, ⟨17, .phase⟩, ⟨18, .phase⟩, ⟨19, .phase⟩, ⟨20, .phase⟩, ⟨21, .phase⟩, ⟨22, .phase⟩, ⟨23, .phase⟩, ⟨24, .phase⟩, ⟨25, .phase⟩, ⟨26, .phase⟩, ⟨27, .phase⟩, ⟨28, .phase⟩, ⟨29, .phase⟩, ⟨30, .phase⟩, ⟨31, .phase⟩, ⟨32, .phase⟩, ⟨33, .phase⟩, ⟨34, .phase⟩, ⟨35, .phase⟩, ⟨36, .phase⟩, ⟨37, .phase⟩, ⟨38, .phase⟩, ⟨39, .phase⟩, ⟨40, .phase⟩, ⟨41, .phase⟩, ⟨42, .phase⟩, ⟨43, .phase⟩, ⟨44, .phase⟩, ⟨45, .phase⟩, ⟨46, .phase⟩, ⟨47, .phase⟩, ⟨48, .phase⟩, ⟨49, .phase⟩, ⟨50, .phase⟩, ⟨51, .phase⟩, ⟨52, .phase⟩, ⟨53, .phase⟩, ⟨54, .phase⟩, ⟨55, .phase⟩, ⟨56, .phase⟩, ⟨57, .phase⟩, ⟨58, .phase⟩, ⟨59, .phase⟩, ⟨60, .phase⟩], none⟩) (v := ?vz406_61) rfl (by kernel_rfl) (by kernel_rfl) (by kernel_rfl) (fun _ _ _ h => h) (Or.inl ⟨by rfl, ?yz406_61⟩) (by assumption) ?rz406_61
                case yz406_61 => (intro w' hSw; (try dsimp only at hSw); go_simp; try with_reducible rfl)
                try simp only [Act.put, List.setIfInBounds_toArray, List.set_cons_zero, List.set_cons_succ]
                refine wpAnyH_done (by kernel_rfl) ?_ _
                go_wp2_with fail
                go_ret
                exact ⟨false, rfl, (fun h => by cases h), HB0.out.trans (Below.mono (by first | exact B6x.out | exact B6x.out.drew | exact below_drewN B6x.out _) HB0.out.size)⟩
        · have d40 : decide ((cf.length : Int) ≤ 40) = false := decide_eq_false h40
          refine wpAnyH_take (i := 16) (oi := ⟨some 25, .binOp .leq 3 (.tmp 24) (.const (Value.int IntKind.i64 40)) 3, 4, "law.go:34", #[⟨15, .data⟩, ⟨12, .guard⟩], some (12, true)⟩) (v := ?vz407_16) rfl (by kernel_rfl) (by kernel_rfl) (by kernel_rfl) (fun _ _ _ h => h) (Or.inl ⟨by rfl, ?yz407_16⟩) (by assumption) ?rz407_16
          case yz407_16 => (intro w' hSw; (try dsimp only at hSw); go_simp; try with_reducible rfl)
          try simp only [Act.put, List.setIfInBounds_toArray, List.set_cons_zero, List.set_cons_succ]
          refine wpAnyH_take (i := 17) (oi := ⟨some 26, .pick (.tmp 21) (.tmp 25) (.const (Value.bool false)), 4, "law.go:34", #[⟨12, .data⟩, ⟨16, .data⟩], none⟩) (v := ?vz408_17) rfl (by kernel_rfl) (by kernel_rfl) (by kernel_rfl) (fun _ _ _ h => h) (Or.inl ⟨by rfl, ?yz408_17⟩) (by assumption) ?rz408_17
          case yz408_17 => (intro w' hSw; (try dsimp only at hSw); go_simp; try with_reducible rfl)
          try simp only [Act.put, List.setIfInBounds_toArray, List.set_cons_zero, List.set_cons_succ]
          refine wpAnyH_take (i := 18) (oi := ⟨some 27, .move (.tmp 26), 4, "law.go:34", #[⟨17, .data⟩, ⟨12, .chain⟩], none⟩) (v := ?vz409_18) rfl (by kernel_rfl) (by kernel_rfl) (by kernel_rfl) (fun _ _ _ h => h) (Or.inl ⟨by rfl, ?yz409_18⟩) (by assumption) ?rz409_18
          case yz409_18 => (intro w' hSw; (try dsimp only at hSw); go_simp; try with_reducible rfl)
          try simp only [Act.put, List.setIfInBounds_toArray, List.set_cons_zero, List.set_cons_succ]
          refine wpAnyH_take (i := 19) (oi := ⟨some 28, .move (.tmp 2), 24, "law.go:34", #[⟨18, .guard⟩], some (18, true)⟩) (v := undef) rfl (by kernel_rfl) (by kernel_rfl) (by kernel_rfl) (fun _ _ _ h => h) (Or.inr ⟨by rfl, rfl⟩) (by assumption) ?_
          try simp only [Act.put, List.setIfInBounds_toArray, List.set_cons_zero, List.set_cons_succ]
          refine wpAnyH_take (i := 20) (oi := ⟨some 29, .call { callee := .value (.func 30), args := #[.tmp 28], argTypes := #[24] }, 4, "law.go:34", #[⟨19, .data⟩, ⟨18, .chain⟩, ⟨18, .guard⟩], some (18, true)⟩) (v := undef) rfl (by kernel_rfl) (by kernel_rfl) (by kernel_rfl) (fun _ _ _ h => h) (Or.inr ⟨by rfl, rfl⟩) (by assumption) ?_
          try simp only [Act.put, List.setIfInBounds_toArray, List.set_cons_zero, List.set_cons_succ]
          refine wpAnyH_take (i := 21) (oi := ⟨some 30, .pick (.tmp 27) (.tmp 29) (.const (Value.bool false)), 4, "law.go:34", #[⟨18, .data⟩, ⟨20, .data⟩], none⟩) (v := ?vz412_21) rfl (by kernel_rfl) (by kernel_rfl) (by kernel_rfl) (fun _ _ _ h => h) (Or.inl ⟨by rfl, ?yz412_21⟩) (by assumption) ?rz412_21
          case yz412_21 => (intro w' hSw; (try dsimp only at hSw); go_simp; try with_reducible rfl)
          try simp only [Act.put, List.setIfInBounds_toArray, List.set_cons_zero, List.set_cons_succ]
          refine wpAnyH_take (i := 22) (oi := ⟨some 31, .move (.tmp 30), 4, "law.go:34", #[⟨21, .data⟩, ⟨20, .chain⟩], none⟩) (v := ?vz413_22) rfl (by kernel_rfl) (by kernel_rfl) (by kernel_rfl) (fun _ _ _ h => h) (Or.inl ⟨by rfl, ?yz413_22⟩) (by assumption) ?rz413_22
          case yz413_22 => (intro w' hSw; (try dsimp only at hSw); go_simp; try with_reducible rfl)
          try simp only [Act.put, List.setIfInBounds_toArray, List.set_cons_zero, List.set_cons_succ]
          refine wpAnyH_take (i := 23) (oi := ⟨some 32, .move (.tmp 3), 23, "law.go:34", #[⟨22, .guard⟩], some (22, true)⟩) (v := undef) rfl (by kernel_rfl) (by kernel_rfl) (by kernel_rfl) (fun _ _ _ h => h) (Or.inr ⟨by rfl, rfl⟩) (by assumption) ?_
          try simp only [Act.put, List.setIfInBounds_toArray, List.set_cons_zero, List.set_cons_succ]
          refine wpAnyH_take (i := 24) (oi := ⟨some 33, .call { callee := .value (.func 28), args := #[.tmp 32], argTypes := #[23] }, 4, "law.go:34", #[⟨23, .data⟩, ⟨22, .chain⟩, ⟨22, .guard⟩], some (22, true)⟩) (v := undef) rfl (by kernel_rfl) (by kernel_rfl) (by kernel_rfl) (fun _ _ _ h => h) (Or.inr ⟨by rfl, rfl⟩) (by assumption) ?_
          try simp only [Act.put, List.setIfInBounds_toArray, List.set_cons_zero, List.set_cons_succ]
          refine wpAnyH_take (i := 25) (oi := ⟨some 34, .pick (.tmp 31) (.tmp 33) (.const (Value.bool false)), 4, "law.go:34", #[⟨22, .data⟩, ⟨24, .data⟩], none⟩) (v := ?vz416_25) rfl (by kernel_rfl) (by kernel_rfl) (by kernel_rfl) (fun _ _ _ h => h) (Or.inl ⟨by rfl, ?yz416_25⟩) (by assumption) ?rz416_25
          case yz416_25 => (intro w' hSw; (try dsimp only at hSw); go_simp; try with_reducible rfl)
          try simp only [Act.put, List.setIfInBounds_toArray, List.set_cons_zero, List.set_cons_succ]
          refine wpAnyH_take (i := 26) (oi := ⟨some 35, .move (.tmp 34), 4, "law.go:34", #[⟨25, .data⟩, ⟨24, .chain⟩], none⟩) (v := ?vz417_26) rfl (by kernel_rfl) (by kernel_rfl) (by kernel_rfl) (fun _ _ _ h => h) (Or.inl ⟨by rfl, ?yz417_26⟩) (by assumption) ?rz417_26
          case yz417_26 => (intro w' hSw; (try dsimp only at hSw); go_simp; try with_reducible rfl)
          try simp only [Act.put, List.setIfInBounds_toArray, List.set_cons_zero, List.set_cons_succ]
          refine wpAnyH_take (i := 27) (oi := ⟨some 36, .move (.tmp 0), 23, "law.go:34", #[⟨26, .guard⟩], some (26, true)⟩) (v := undef) rfl (by kernel_rfl) (by kernel_rfl) (by kernel_rfl) (fun _ _ _ h => h) (Or.inr ⟨by rfl, rfl⟩) (by assumption) ?_
          try simp only [Act.put, List.setIfInBounds_toArray, List.set_cons_zero, List.set_cons_succ]
          refine wpAnyH_take (i := 28) (oi := ⟨some 37, .call { callee := .value (.func 29), args := #[.tmp 36], argTypes := #[23] }, 38, "law.go:34", #[⟨27, .data⟩, ⟨26, .chain⟩, ⟨26, .guard⟩], some (26, true)⟩) (v := undef) rfl (by kernel_rfl) (by kernel_rfl) (by kernel_rfl) (fun _ _ _ h => h) (Or.inr ⟨by rfl, rfl⟩) (by assumption) ?_
          try simp only [Act.put, List.setIfInBounds_toArray, List.set_cons_zero, List.set_cons_succ]
          refine wpAnyH_take (i := 29) (oi := ⟨some 38, .binOp .eql 38 (.tmp 37) (.const Value.nilIface) 38, 4, "law.go:34", #[⟨28, .data⟩, ⟨26, .guard⟩], some (26, true)⟩) (v := undef) rfl (by kernel_rfl) (by kernel_rfl) (by kernel_rfl) (fun _ _ _ h => h) (Or.inr ⟨by rfl, rfl⟩) (by assumption) ?_
          try simp only [Act.put, List.setIfInBounds_toArray, List.set_cons_zero, List.set_cons_succ]
          refine wpAnyH_take (i := 30) (oi := ⟨some 39, .pick (.tmp 35) (.tmp 38) (.const (Value.bool false)), 4, "law.go:34", #[⟨26, .data⟩, ⟨29, .data⟩], none⟩) (v := ?vz421_30) rfl (by kernel_rfl) (by kernel_rfl) (by kernel_rfl) (fun _ _ _ h => h) (Or.inl ⟨by rfl, ?yz421_30⟩) (by assumption) ?rz421_30
          case yz421_30 => (intro w' hSw; (try dsimp only at hSw); go_simp; try with_reducible rfl)
          try simp only [Act.put, List.setIfInBounds_toArray, List.set_cons_zero, List.set_cons_succ]
          refine wpAnyH_take (i := 31) (oi := ⟨some 40, .move (.tmp 39), 4, "law.go:34", #[⟨30, .data⟩, ⟨28, .chain⟩], none⟩) (v := ?vz422_31) rfl (by kernel_rfl) (by kernel_rfl) (by kernel_rfl) (fun _ _ _ h => h) (Or.inl ⟨by rfl, ?yz422_31⟩) (by assumption) ?rz422_31
          case yz422_31 => (intro w' hSw; (try dsimp only at hSw); go_simp; try with_reducible rfl)
          try simp only [Act.put, List.setIfInBounds_toArray, List.set_cons_zero, List.set_cons_succ]
          refine wpAnyH_take (i := 32) (oi := ⟨some 41, .fieldAddr 27 (.tmp 5) 0, 0, "law.go:34", #[⟨31, .guard⟩], some (31, true)⟩) (v := undef) rfl (by kernel_rfl) (by kernel_rfl) (by kernel_rfl) (fun _ _ _ h => h) (Or.inr ⟨by rfl, rfl⟩) (by assumption) ?_
          try simp only [Act.put, List.setIfInBounds_toArray, List.set_cons_zero, List.set_cons_succ]
          refine wpAnyH_take (i := 33) (oi := ⟨some 42, .load 23 (.tmp 41), 23, "law.go:34", #[⟨32, .data⟩, ⟨31, .guard⟩], some (31, true)⟩) (v := undef) rfl (by kernel_rfl) (by kernel_rfl) (by kernel_rfl) (fun _ _ _ h => h) (Or.inr ⟨by rfl, rfl⟩) (by assumption) ?_
          try simp only [Act.put, List.setIfInBounds_toArray, List.set_cons_zero, List.set_cons_succ]
          refine wpAnyH_take (i := 34) (oi := ⟨some 43, .call { callee := .value (.func 29), args := #[.tmp 42], argTypes := #[23] }, 38, "law.go:34", #[⟨33, .data⟩, ⟨31, .chain⟩, ⟨31, .guard⟩], some (31, true)⟩) (v := undef) rfl (by kernel_rfl) (by kernel_rfl) (by kernel_rfl) (fun _ _ _ h => h) (Or.inr ⟨by rfl, rfl⟩) (by assumption) ?_
          try simp only [Act.put, List.setIfInBounds_toArray, List.set_cons_zero, List.set_cons_succ]
          refine wpAnyH_take (i := 35) (oi := ⟨some 44, .binOp .eql 38 (.tmp 43) (.const Value.nilIface) 38, 4, "law.go:34", #[⟨34, .data⟩, ⟨31, .guard⟩], some (31, true)⟩) (v := undef) rfl (by kernel_rfl) (by kernel_rfl) (by kernel_rfl) (fun _ _ _ h => h) (Or.inr ⟨by rfl, rfl⟩) (by assumption) ?_
          try simp only [Act.put, List.setIfInBounds_toArray, List.set_cons_zero, List.set_cons_succ]
          refine wpAnyH_take (i := 36) (oi := ⟨some 45, .pick (.tmp 40) (.tmp 44) (.const (Value.bool false)), 4, "law.go:34", #[⟨31, .data⟩, ⟨35, .data⟩], none⟩) (v := ?vz427_36) rfl (by kernel_rfl) (by kernel_rfl) (by kernel_rfl) (fun _ _ _ h => h) (Or.inl ⟨by rfl, ?yz427_36⟩) (by assumption) ?rz427_36
          case yz427_36 => (intro w' hSw; (try dsimp only at hSw); go_simp; try with_reducible rfl)
          try simp only [Act.put, List.setIfInBounds_toArray, List.set_cons_zero, List.set_cons_succ]
          refine wpAnyH_take (i := 37) (oi := ⟨some 46, .move (.tmp 45), 4, "law.go:34", #[⟨36, .data⟩, ⟨34, .chain⟩], none⟩) (v := ?vz428_37) rfl (by kernel_rfl) (by kernel_rfl) (by kernel_rfl) (fun _ _ _ h => h) (Or.inl ⟨by rfl, ?yz428_37⟩) (by assumption) ?rz428_37
          case yz428_37 => (intro w' hSw; (try dsimp only at hSw); go_simp; try with_reducible rfl)
          try simp only [Act.put, List.setIfInBounds_toArray, List.set_cons_zero, List.set_cons_succ]
          refine wpAnyH_take (i := 38) (oi := ⟨some 47, .move (.tmp 2), 24, "law.go:34", #[⟨37, .guard⟩], some (37, true)⟩) (v := undef) rfl (by kernel_rfl) (by kernel_rfl) (by kernel_rfl) (fun _ _ _ h => h) (Or.inr ⟨by rfl, rfl⟩) (by assumption) ?_
          try simp only [Act.put, List.setIfInBounds_toArray, List.set_cons_zero, List.set_cons_succ]
          refine wpAnyH_take (i := 39) (oi := ⟨some 48, .call { callee := .value (.func 31), args := #[.tmp 47], argTypes := #[24] }, 38, "law.go:34", #[⟨38, .data⟩, ⟨37, .chain⟩, ⟨37, .guard⟩], some (37, true)⟩) (v := undef) rfl (by kernel_rfl) (by kernel_rfl) (by kernel_rfl) (fun _ _ _ h => h) (Or.inr ⟨by rfl, rfl⟩) (by assumption) ?_
          try simp only [Act.put, List.setIfInBounds_toArray, List.set_cons_zero, List.set_cons_succ]
          refine wpAnyH_take (i := 40) (oi := ⟨some 49, .binOp .eql 38 (.tmp 48) (.const Value.nilIface) 38, 4, "law.go:34", #[⟨39, .data⟩, ⟨37, .guard⟩], some (37, true)⟩) (v := undef) rfl (by kernel_rfl) (by kernel_rfl) (by kernel_rfl) (fun _ _ _ h => h) (Or.inr ⟨by rfl, rfl⟩) (by assumption) ?_
          try simp only [Act.put, List.setIfInBounds_toArray, List.set_cons_zero, List.set_cons_succ]
          refine wpAnyH_take (i := 41) (oi := ⟨some 50, .pick (.tmp 46) (.tmp 49) (.const (Value.bool false)), 4, "law.go:34", #[⟨37, .data⟩, ⟨40, .data⟩], none⟩) (v := ?vz432_41) rfl (by kernel_rfl) (by kernel_rfl) (by kernel_rfl) (fun _ _ _ h => h) (Or.inl ⟨by rfl, ?yz432_41⟩) (by assumption) ?rz432_41
          case yz432_41 => (intro w' hSw; (try dsimp only at hSw); go_simp; try with_reducible rfl)
          try simp only [Act.put, List.setIfInBounds_toArray, List.set_cons_zero, List.set_cons_succ]
          refine wpAnyH_take (i := 42) (oi := ⟨some 51, .move (.tmp 50), 4, "law.go:34", #[⟨41, .data⟩, ⟨39, .chain⟩], none⟩) (v := ?vz433_42) rfl (by kernel_rfl) (by kernel_rfl) (by kernel_rfl) (fun _ _ _ h => h) (Or.inl ⟨by rfl, ?yz433_42⟩) (by assumption) ?rz433_42
          case yz433_42 => (intro w' hSw; (try dsimp only at hSw); go_simp; try with_reducible rfl)
          try simp only [Act.put, List.setIfInBounds_toArray, List.set_cons_zero, List.set_cons_succ]
          refine wpAnyH_take (i := 43) (oi := ⟨some 52, .move (.tmp 3), 23, "law.go:34", #[⟨42, .guard⟩], some (42, true)⟩) (v := undef) rfl (by kernel_rfl) (by kernel_rfl) (by kernel_rfl) (fun _ _ _ h => h) (Or.inr ⟨by rfl, rfl⟩) (by assumption) ?_
          try simp only [Act.put, List.setIfInBounds_toArray, List.set_cons_zero, List.set_cons_succ]
          refine wpAnyH_take (i := 44) (oi := ⟨some 53, .call { callee := .value (.func 29), args := #[.tmp 52], argTypes := #[23] }, 38, "law.go:34", #[⟨43, .data⟩, ⟨42, .chain⟩, ⟨42, .guard⟩], some (42, true)⟩) (v := undef) rfl (by kernel_rfl) (by kernel_rfl) (by kernel_rfl) (fun _ _ _ h => h) (Or.inr ⟨by rfl, rfl⟩) (by assumption) ?_
          try simp only [Act.put, List.setIfInBounds_toArray, List.set_cons_zero, List.set_cons_succ]
          refine wpAnyH_take (i := 45) (oi := ⟨some 54, .binOp .eql 38 (.tmp 53) (.const Value.nilIface) 38, 4, "law.go:34", #[⟨44, .data⟩, ⟨42, .guard⟩], some (42, true)⟩) (v := undef) rfl (by kernel_rfl) (by kernel_rfl) (by kernel_rfl) (fun _ _ _ h => h) (Or.inr ⟨by rfl, rfl⟩) (by assumption) ?_
          try simp only [Act.put, List.setIfInBounds_toArray, List.set_cons_zero, List.set_cons_succ]
          refine wpAnyH_take (i := 46) (oi := ⟨some 55, .pick (.tmp 51) (.tmp 54) (.const (Value.bool false)), 4, "law.go:34", #[⟨42, .data⟩, ⟨45, .data⟩], none⟩) (v := ?vz437_46) rfl (by kernel_rfl) (by kernel_rfl) (by kernel_rfl) (fun _ _ _ h => h) (Or.inl ⟨by rfl, ?yz437_46⟩) (by assumption) ?rz437_46
          case yz437_46 => (intro w' hSw; (try dsimp only at hSw); go_simp; try with_reducible rfl)
          try simp only [Act.put, List.setIfInBounds_toArray, List.set_cons_zero, List.set_cons_succ]
          refine wpAnyH_take (i := 47) (oi := ⟨some 56, .move (.tmp 55), 4, "law.go:34", #[⟨46, .data⟩, ⟨44, .chain⟩], none⟩) (v := ?vz438_47) rfl (by kernel_rfl) (by kernel_rfl) (by kernel_rfl) (fun _ _ _ h => h) (Or.inl ⟨by rfl, ?yz438_47⟩) (by assumption) ?rz438_47
          case yz438_47 => (intro w' hSw; (try dsimp only at hSw); go_simp; try with_reducible rfl)
          try simp only [Act.put, List.setIfInBounds_toArray, List.set_cons_zero, List.set_cons_succ]
          refine wpAnyH_take (i := 48) (oi := ⟨some 57, .fieldAddr 27 (.tmp 5) 1, 0, "law.go:34", #[⟨47, .guard⟩], some (47, true)⟩) (v := undef) rfl (by kernel_rfl) (by kernel_rfl) (by kernel_rfl) (fun _ _ _ h => h) (Or.inr ⟨by rfl, rfl⟩) (by assumption) ?_
          try simp only [Act.put, List.setIfInBounds_toArray, List.set_cons_zero, List.set_cons_succ]
          refine wpAnyH_take (i := 49) (oi := ⟨some 58, .load 24 (.tmp 57), 24, "law.go:34", #[⟨48, .data⟩, ⟨47, .guard⟩], some (47, true)⟩) (v := undef) rfl (by kernel_rfl) (by kernel_rfl) (by kernel_rfl) (fun _ _ _ h => h) (Or.inr ⟨by rfl, rfl⟩) (by assumption) ?_
          try simp only [Act.put, List.setIfInBounds_toArray, List.set_cons_zero, List.set_cons_succ]
          refine wpAnyH_take (i := 50) (oi := ⟨some 59, .call { callee := .value (.func 31), args := #[.tmp 58], argTypes := #[24] }, 38, "law.go:34", #[⟨49, .data⟩, ⟨47, .chain⟩, ⟨47, .guard⟩], some (47, true)⟩) (v := undef) rfl (by kernel_rfl) (by kernel_rfl) (by kernel_rfl) (fun _ _ _ h => h) (Or.inr ⟨by rfl, rfl⟩) (by assumption) ?_
          try simp only [Act.put, List.setIfInBounds_toArray, List.set_cons_zero, List.set_cons_succ]
          refine wpAnyH_take (i := 51) (oi := ⟨some 60, .binOp .eql 38 (.tmp 59) (.const Value.nilIface) 38, 4, "law.go:34", #[⟨50, .data⟩, ⟨47, .guard⟩], some (47, true)⟩) (v := undef) rfl (by kernel_rfl) (by kernel_rfl) (by kernel_rfl) (fun _ _ _ h => h) (Or.inr ⟨by rfl, rfl⟩) (by assumption) ?_
          try simp only [Act.put, List.setIfInBounds_toArray, List.set_cons_zero, List.set_cons_succ]
          refine wpAnyH_take (i := 52) (oi := ⟨some 61, .pick (.tmp 56) (.tmp 60) (.const (Value.bool false)), 4, "law.go:34", #[⟨47, .data⟩, ⟨51, .data⟩], none⟩) (v := ?vz443_52) rfl (by kernel_rfl) (by kernel_rfl) (by kernel_rfl) (fun _ _ _ h => h) (Or.inl ⟨by rfl, ?yz443_52⟩) (by assumption) ?rz443_52
          case yz443_52 => (intro w' hSw; (try dsimp only at hSw); go_simp; try with_reducible rfl)
          try simp only [Act.put, List.setIfInBounds_toArray, List.set_cons_zero, List.set_cons_succ]
          refine wpAnyH_take (i := 53) (oi := ⟨some 62, .move (.tmp 61), 4, "law.go:34", #[⟨52, .data⟩, ⟨50, .chain⟩], none⟩) (v := ?vz444_53) rfl (by kernel_rfl) (by kernel_rfl) (by kernel_rfl) (fun _ _ _ h => h) (Or.inl ⟨by rfl, ?yz444_53⟩) (by assumption) ?rz444_53
          case yz444_53 => (intro w' hSw; (try dsimp only at hSw); go_simp; try with_reducible rfl)
          try simp only [Act.put, List.setIfInBounds_toArray, List.set_cons_zero, List.set_cons_succ]
          refine wpAnyH_take (i := 54) (oi := ⟨some 63, .fieldAddr 27 (.tmp 5) 1, 0, "law.go:34", #[⟨53, .guard⟩], some (53, true)⟩) (v := undef) rfl (by kernel_rfl) (by kernel_rfl) (by kernel_rfl) (fun _ _ _ h => h) (Or.inr ⟨by rfl, rfl⟩) (by assumption) ?_
          try simp only [Act.put, List.setIfInBounds_toArray, List.set_cons_zero, List.set_cons_succ]
          refine wpAnyH_take (i := 55) (oi := ⟨some 64, .load 24 (.tmp 63), 24, "law.go:34", #[⟨54, .data⟩, ⟨53, .guard⟩], some (53, true)⟩) (v := undef) rfl (by kernel_rfl) (by kernel_rfl) (by kernel_rfl) (fun _ _ _ h => h) (Or.inr ⟨by rfl, rfl⟩) (by assumption) ?_
          try simp only [Act.put, List.setIfInBounds_toArray, List.set_cons_zero, List.set_cons_succ]
          refine wpAnyH_take (i := 57) (oi := ⟨some 66, .fieldAddr 27 (.tmp 5) 2, 0, "law.go:34", #[⟨53, .guard⟩], some (53, true)⟩) (v := undef) rfl (by kernel_rfl) (by kernel_rfl) (by kernel_rfl) (fun _ _ _ h => h) (Or.inr ⟨by rfl, rfl⟩) (by assumption) ?_
          try simp only [Act.put, List.setIfInBounds_toArray, List.set_cons_zero, List.set_cons_succ]
          refine wpAnyH_take (i := 58) (oi := ⟨some 67, .load 25 (.tmp 66), 25, "law.go:34", #[⟨57, .data⟩, ⟨53, .guard⟩], some (53, true)⟩) (v := undef) rfl (by kernel_rfl) (by kernel_rfl) (by kernel_rfl) (fun _ _ _ h => h) (Or.inr ⟨by rfl, rfl⟩) (by assumption) ?_
          try simp only [Act.put, List.setIfInBounds_toArray, List.set_cons_zero, List.set_cons_succ]
          refine wpAnyH_take (i := 56) (oi := ⟨some 65, .call { callee := .value (.func 32), args := #[.tmp 64], argTypes := #[24] }, 25, "law.go:34", #[⟨55, .data⟩, ⟨53, .chain⟩, ⟨53, .guard⟩], some (53, true)⟩) (v := undef) rfl (by kernel_rfl) (by kernel_rfl) (by kernel_rfl) (fun _ _ _ h => h) (Or.inr ⟨by rfl, rfl⟩) (by assumption) ?_
          try simp only [Act.put, List.setIfInBounds_toArray, List.set_cons_zero, List.set_cons_succ]
          refine wpAnyH_take (i := 59) (oi := ⟨some 68, .call { callee := .value (.func 14), args := #[.tmp 65, .tmp 67], argTypes := #[25, 25] }, 4, "law.go:34", #[⟨56, .data⟩, ⟨58, .data⟩, ⟨56, .chain⟩, ⟨53, .guard⟩], some (53, true)⟩) (v := undef) rfl (by kernel_rfl) (by kernel_rfl) (by kernel_rfl) (fun _ _ _ h => h) (Or.inr ⟨by rfl, rfl⟩) (by assumption) ?_
          try simp only [Act.put, List.setIfInBounds_toArray, List.set_cons_zero, List.set_cons_succ]
          refine wpAnyH_take (i := 60) (oi := ⟨some 69, .pick (.tmp 62) (.tmp 68) (.const (Value.bool false)), 4, "law.go:34", #[⟨53, .data⟩, ⟨59, .data⟩], none⟩) (v := ?vz451_60) rfl (by kernel_rfl) (by kernel_rfl) (by kernel_rfl) (fun _ _ _ h => h) (Or.inl ⟨by rfl, ?yz451_60⟩) (by assumption) ?rz451_60
          case yz451_60 => (intro w' hSw; (try dsimp only at hSw); go_simp; try with_reducible rfl)
          try simp only [Act.put, List.setIfInBounds_toArray, List.set_cons_zero, List.set_cons_succ]
          refine wpAnyH_take (i := 61) (oi := ⟨some 8, .assign (.tmp 69), 4, "law.go:34", #[⟨60, .data⟩, ⟨59, .chain⟩, ⟨0, .phase⟩, ⟨1, .phase⟩, ⟨2, .phase⟩, ⟨3, .phase⟩, ⟨4, .phase⟩, ⟨5, .phase⟩, ⟨6, .phase⟩, ⟨7, .phase⟩, ⟨8, .phase⟩, ⟨9, .phase⟩, ⟨10, .phase⟩, ⟨11, .phase⟩, ⟨12, .phase⟩, ⟨13, .phase⟩, ⟨14, .phase⟩, ⟨15, .phase⟩, ⟨16, .phase⟩, ⟨17, .phase⟩, ⟨18, .phase⟩, ⟨19, .phase⟩, ⟨20, .phase⟩, ⟨21, .phase⟩, ⟨22, .phase⟩, ⟨23, .phase⟩, ⟨24, .phase⟩, ⟨25, .phase⟩, ⟨26, .phase⟩, ⟨27, .phase⟩, ⟨28, .phase⟩, ⟨29, .phase⟩, ⟨30, .phase⟩, ⟨31, .phase⟩, ⟨32, .phase⟩, ⟨33, .phase⟩, ⟨34, .phase⟩, ⟨35, .phase⟩, ⟨36, .phase⟩, ⟨37, .phase⟩, ⟨38, .phase⟩, ⟨39, .phase⟩, ⟨40, .phase⟩, ⟨41, .phase⟩, ⟨42, .phase⟩, ⟨43, .phase⟩, ⟨44, .phase⟩, ⟨45, .phase⟩, ⟨46, .phase⟩, ⟨47, .phase⟩, ⟨48, .phase⟩, ⟨49, .phase⟩, ⟨50, .phase⟩, ⟨51, .phase⟩, ⟨52, .phase⟩, ⟨53, .phase⟩, ⟨54, .phase⟩, ⟨55, .phase⟩, ⟨56, .phase⟩, ⟨57, .phase⟩, ⟨58, .phase⟩, ⟨59, .phase⟩, ⟨60, .phase⟩], none⟩) (v := ?vz452_61) rfl (by kernel_rfl) (by kernel_rfl) (by kernel_rfl) (fun _ _ _ h => h) (Or.inl ⟨by rfl, ?yz452_61⟩) (by assumption) ?rz452_61
          case yz452_61 => (intro w' hSw; (try dsimp only at hSw); go_simp; try with_reducible rfl)
          try simp only [Act.put, List.setIfInBounds_toArray, List.set_cons_zero, List.set_cons_succ]
          refine wpAnyH_done (by kernel_rfl) ?_ _
          go_wp2_with fail
          go_ret
          exact ⟨false, rfl, (fun h => by cases h), HB0.out.trans (Below.mono (by first | exact B3x.out | exact B3x.out.drew | exact below_drewN B3x.out _) HB0.out.size)⟩
end Go.Proofs.YtdmmjfmjohliiaaGreatDoor
