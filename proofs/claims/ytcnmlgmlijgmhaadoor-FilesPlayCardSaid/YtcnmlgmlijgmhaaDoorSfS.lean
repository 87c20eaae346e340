/-
  simfs: (tree).refuses and (tree).do of any op.
-/
import Derived.Test.YtcnmlgmlijgmhaaDoorSfO
import Derived.Test.YtcnmlgmlijgmhaaDoorMOps
import Derived.Test.YtcnmlgmlijgmhaaDoorPCheck
namespace Go.Proofs.YtcnmlgmlijgmhaaDoor
open Go Go.RowKit Go.Maps

/-- What an op is refused with. -/
def refO (T : Tr) (o : Ov) : Int :=
  if o.1 = 2 then (if (getT T o.2.1).isSome then 0 else 5)
  else if o.1 = 1 then (if (getT T o.2.1).isSome then (if chk o.2.2.1.data.toList = 0 then refV T o.2.1 o.2.2.1 else chk o.2.2.1.data.toList) else 5)
  else refV T o.2.1 o.2.2.1
/-- An op, done. -/
def doO (T : Tr) (o : Ov) : Tr :=
  if o.1 = 2 then delT T o.2.1
  else if o.1 = 1 then putT (delT T o.2.1) o.2.2.1 ((getT T o.2.1).getD noF)
  else putT T o.2.2.1 ⟨o.2.2.2.1, o.2.2.2.2.1, o.2.2.2.2.2.1, o.2.2.2.2.2.2⟩
/-- An op as a value. -/
def opA (o : Ov) : Value := .agg #[.int .i64 o.1, .string o.2.1, .string o.2.2.1, .int .i64 o.2.2.2.1, .int .i64 o.2.2.2.2.1, .int .i64 o.2.2.2.2.2.1, .string o.2.2.2.2.2.2]
abbrev opC (k : Int) (fr p : ByteArray) (m t i : Int) (s : ByteArray) : Array Value := #[.int .i64 k, .string fr, .string p, .int .i64 m, .int .i64 t, .int .i64 i, .string s]
theorem refO_del {T : Tr} {fr p : ByteArray} {m t i : Int} {s : ByteArray} : refO T (2, fr, p, m, t, i, s) = if (getT T fr).isSome then 0 else 5 := rfl
theorem refO_put {T : Tr} {fr p : ByteArray} {m t i : Int} {s : ByteArray} : refO T (0, fr, p, m, t, i, s) = refV T fr p := rfl
set_option maxRecDepth 100000 in
set_option maxHeartbeats 4000000 in
theorem refuses_0 (w : World) (b n : Nat) (T : Tr) (fr p : ByteArray) (m t i : Int) (s : ByteArray) (h : TreeIs w b n T) (hT : ∀ x ∈ T, x.1.size ≤ 1000000) (hfr : fr.size ≤ maxLen) (hp : p.size ≤ 1000000) :
    Calls Tryd.prog 39 #[.map (some b), .agg (opC 0 fr p m t i s)] w fun e w' => e = .returned (.int .i64 (refO T (0, fr, p, m, t, i, s))) ∧ Below w.heap.size w w' := by
  have K1 := Lib.hid (Blk.new w 80 (opC 0 fr p m t i s))
  have B1 := Lib.hid ((Below.refl w.heap.size w).alloc (Nat.le_refl _) (.cells (opC 0 fr p m t i s) 80))
  have HB := Lib.hid (h.alloc (.cells (opC 0 fr p m t i s) 80))
  have HT := Lib.hid hT
  have HP := Lib.hid hp
  have HFR := Lib.hid hfr
  clear h hT hp hfr
  have c0 := K1.out.cell 0
  rw [refO_put]
  go_enter Tryd.func39, Tryd.ntmps39
  go_upto_region 12 with fail
  generalize hW : w.alloc (.cells (opC 0 fr p m t i s) 80) = W at *
  clear hW c0
  go_wp2_with (first
    | (at_range; go_loud (refine wpList_range_own _ rfl _ 71 rfl 9 77 keyed_s Tryd.underlying71 fileR b n (mapD T) rfl HB.out ?_; intro w0 hrg0 hg0 hs0))
    | go_in)
  go_frame
  go_loopw [7] (fun _ wr => ∃ (left : Lit → Bool) (cnt : Nat), wr.ranges Tryd.prog 9 fileR b W.heap.size n (mapD T) left cnt ∧ Hid (W.grownBy wr none) ∧ Hid (∀ x ∈ T, left (kS x.1) = false → badX fr p x = false))
    (fun _ wr => wr.rangeLeft b W.heap.size)
  case atStart => exact ⟨_, _, hrg0, Lib.hid hg0, Lib.hid (fun x hx hl => by rw [has_mem hx] at hl; cases hl)⟩
  case round =>
    obtain ⟨left, cnt, hrg, hgw, hbad⟩ := hrel
    go_wp2_with (first
      | (at_next; refine wpList_next_ranges _ rfl _ rfl 9 keyed_s fileR Value.string fV (fun key kl hk => by obtain ⟨s, rfl, _⟩ := WideMaps.string_of_keyOf Tryd.underlying9 hk; exact ⟨s, rfl⟩) (fun v y hv => by obtain ⟨f, rfl, _⟩ := fileR_inv hv; exact ⟨f, rfl⟩) b W.heap.size n _ _ _ rfl hrg ?_ ?_)
      | go_in)
    · intro _ hl0
      have HR := Lib.hid (refV_no (T := T) (fr := fr) (p := p) <| List.any_eq_false.2 fun x hx => by rw [hbad.out x hx (hl0 _)]; simp)
      have HBB := Lib.hid (B1.out.grown hgw.out B1.out.size (fun z hz => by cases hz))
      go_wp2
      go_ret
      exact ⟨by rw [HR.out]; rfl, HBB.out⟩
    · intro x c kl y1 y2 w1 cnt1 hkey hlx hy hat hrg1 hlt hg1 hs1 hen
      obtain ⟨s', e1, e2, hsz⟩ := WideMaps.string_of_keyOf Tryd.underlying9 hkey
      cases e1
      have hkl : kl = kS x := e2
      subst hkl
      have hyD : y1 = fD c := by rw [fileR_mk] at hy; cases hy; rfl
      subst hyD
      have hmem := mem_of_at (T := T) (x := x) (c := c) hat
      have hg1' := hgw.out.andThen hg1 (row := none) (fun j hj => by cases hj; exact .inl (Nat.le_refl _))
      have KX := K1.out.grown hg1' (by simp)
      have x1 := KX.cell 1
      have x2 := KX.cell 2
      have HG1 := Lib.hid hg1'
      have HRG := Lib.hid hrg1
      have HOLD := Lib.hid hrg
      have HLT := Lib.hid hlt
      have CL := Lib.hid (clash_any x p w1 (HT.out _ hmem) HP.out)
      have HST := Lib.hid (fun (hb : badX fr p (x, c) = false) => (show ∀ z ∈ T, (left (kS z.1) && !(kS z.1).sameKey (kS x)) = false → badX fr p z = false from fun z hz hl => by
        cases hlz : left (kS z.1) with
        | false => exact hbad.out z hz hlz
        | true =>
          rw [hlz, same_kS] at hl
          simp at hl
          unfold badX at hb ⊢
          rw [hl]
          exact hb))
      have HMEM := Lib.hid hmem
      unfold fV at hen
      clear hkey hlx hy hat hrg1 hlt hg1 hg1' KX hrg hbad hgw hmem hsz
      by_cases hxf : x = fr
      · have hb : badX fr p (x, c) = false := by unfold badX; rw [hxf]; simp
        have HS2 := Lib.hid (HST.out hb)
        have hq1 : (x.toList == fr.toList) = true := by rw [hxf]; exact beq_self_eq_true _
        clear hb
        go_wp2_with fail
        go_roundw
        case rel => exact ⟨_, cnt1, HRG.out, HG1, HS2⟩
        case measure => rw [HRG.out.left_eq, HOLD.out.left_eq]; exact HLT.out
      · have hq3 : decide (x = fr) = false := decide_eq_false hxf
        cases hcl : cls x.data.toList p.data.toList with
        | true =>
          rw [hcl] at CL
          have hb : badX fr p (x, c) = true := by unfold badX; rw [decide_eq_false hxf, hcl]; rfl
          have HRR := Lib.hid (refV_yes (T := T) (fr := fr) (p := p) (List.any_eq_true.2 ⟨_, HMEM.out, hb⟩))
          have HBB := Lib.hid (B1.out.grown HG1.out B1.out.size (fun z hz => by cases hz))
          have hq1 : (x.toList == fr.toList) = false := by
            rw [beq_eq_false_iff_ne]
            exact fun e => hxf (by rw [ByteArray.toList_eq, ByteArray.toList_eq] at e; exact bytes_ext e)
          clear hb hcl
          go_wp2_with fail
          refine CL.out.mono ?_
          rintro e w' ⟨rfl, rfl⟩
          go_wp2
          go_ret
          exact ⟨by rw [HRR.out]; rfl, HBB.out⟩
        | false =>
          rw [hcl] at CL
          have hb : badX fr p (x, c) = false := by unfold badX; rw [hcl]; simp
          have HS2 := Lib.hid (HST.out hb)
          have hq1 : (x.toList == fr.toList) = false := by
            rw [beq_eq_false_iff_ne]
            exact fun e => hxf (by rw [ByteArray.toList_eq, ByteArray.toList_eq] at e; exact bytes_ext e)
          clear hb hcl
          go_wp2_with fail
          refine CL.out.mono ?_
          rintro e w' ⟨rfl, rfl⟩
          go_wp2_with fail
          go_roundw
          case rel => exact ⟨_, cnt1, HRG.out, HG1, HS2⟩
          case measure => rw [HRG.out.left_eq, HOLD.out.left_eq]; exact HLT.out
set_option maxRecDepth 100000 in
set_option maxHeartbeats 4000000 in
theorem refuses_2 (w : World) (b n : Nat) (T : Tr) (fr p : ByteArray) (m t i : Int) (s : ByteArray) (h : TreeIs w b n T) (hT : ∀ x ∈ T, x.1.size ≤ 1000000) (hfr : fr.size ≤ maxLen) (hp : p.size ≤ 1000000) :
    Calls Tryd.prog 39 #[.map (some b), .agg (opC 2 fr p m t i s)] w fun e w' => e = .returned (.int .i64 (refO T (2, fr, p, m, t, i, s))) ∧ Below w.heap.size w w' := by
  have K1 := Lib.hid (Blk.new w 80 (opC 2 fr p m t i s))
  have B1 := Lib.hid ((Below.refl w.heap.size w).alloc (Nat.le_refl _) (.cells (opC 2 fr p m t i s) 80))
  have HB := Lib.hid (h.alloc (.cells (opC 2 fr p m t i s) 80))
  have HT := Lib.hid hT
  have HP := Lib.hid hp
  have HFR := Lib.hid hfr
  clear h hT hp hfr
  have c0 := K1.out.cell 0
  have c1 := K1.out.cell 1
  have LK := Lib.hid (lacks_any _ b n T fr HB.out HFR.out)
  rw [refO_del]
  obtain ⟨v, hv⟩ : ∃ v : Int, v = if (getT T fr).isSome then 0 else 5 := ⟨_, rfl⟩
  rw [← hv] at LK ⊢
  clear hv
  go_enter Tryd.func39, Tryd.ntmps39
  go_wp2_with fail
  refine LK.out.mono ?_
  rintro e w2 ⟨rfl, b2⟩
  have BB := Lib.hid (B1.out.trans (b2.mono B1.out.size))
  clear b2
  go_wp2_with fail
  go_ret
  exact ⟨rfl, BB.out⟩
set_option maxRecDepth 100000 in
set_option maxHeartbeats 4000000 in
theorem refuses_1no (w : World) (b n : Nat) (T : Tr) (fr p : ByteArray) (m t i : Int) (s : ByteArray) (h : TreeIs w b n T) (hT : ∀ x ∈ T, x.1.size ≤ 1000000) (hfr : fr.size ≤ maxLen) (hp : p.size ≤ 1000000) (hg : (getT T fr).isSome = false) :
    Calls Tryd.prog 39 #[.map (some b), .agg (opC 1 fr p m t i s)] w fun e w' => e = .returned (.int .i64 (refO T (1, fr, p, m, t, i, s))) ∧ Below w.heap.size w w' := by
  have K1 := Lib.hid (Blk.new w 80 (opC 1 fr p m t i s))
  have B1 := Lib.hid ((Below.refl w.heap.size w).alloc (Nat.le_refl _) (.cells (opC 1 fr p m t i s) 80))
  have HB := Lib.hid (h.alloc (.cells (opC 1 fr p m t i s) 80))
  have HT := Lib.hid hT
  have HP := Lib.hid hp
  have HFR := Lib.hid hfr
  clear h hT hp hfr
  have c0 := K1.out.cell 0
  have c1 := K1.out.cell 1
  have LK := Lib.hid (lacks_any _ b n T fr HB.out HFR.out)
  have HR := Lib.hid (show refO T (1, fr, p, m, t, i, s) = 5 by unfold refO; simp [hg])
  rw [hg] at LK
  clear hg
  go_enter Tryd.func39, Tryd.ntmps39
  go_wp2_with fail
  refine LK.out.mono ?_
  rintro e w2 ⟨rfl, b2⟩
  have BB := Lib.hid (B1.out.trans (b2.mono B1.out.size))
  clear b2
  go_wp2_with fail
  go_ret
  exact ⟨by rw [HR.out]; rfl, BB.out⟩
set_option maxRecDepth 100000 in
set_option maxHeartbeats 4000000 in
theorem refuses_1bad (w : World) (b n : Nat) (T : Tr) (fr p : ByteArray) (m t i : Int) (s : ByteArray) (h : TreeIs w b n T) (hT : ∀ x ∈ T, x.1.size ≤ 1000000) (hfr : fr.size ≤ maxLen) (hp : p.size ≤ 1000000) (hg : (getT T fr).isSome = true) (hc : chk p.data.toList ≠ 0) :
    Calls Tryd.prog 39 #[.map (some b), .agg (opC 1 fr p m t i s)] w fun e w' => e = .returned (.int .i64 (refO T (1, fr, p, m, t, i, s))) ∧ Below w.heap.size w w' := by
  have K1 := Lib.hid (Blk.new w 80 (opC 1 fr p m t i s))
  have B1 := Lib.hid ((Below.refl w.heap.size w).alloc (Nat.le_refl _) (.cells (opC 1 fr p m t i s) 80))
  have HB := Lib.hid (h.alloc (.cells (opC 1 fr p m t i s) 80))
  have HT := Lib.hid hT
  have HP := Lib.hid hp
  have HFR := Lib.hid hfr
  clear h hT hp hfr
  have c0 := K1.out.cell 0
  have c1 := K1.out.cell 1
  have LK := Lib.hid (lacks_any _ b n T fr HB.out HFR.out)
  rw [hg] at LK
  have HG := Lib.hid hg
  have HC := Lib.hid hc
  clear hg hc
  go_enter Tryd.func39, Tryd.ntmps39
  go_wp2_with fail
  refine LK.out.mono ?_
  rintro e w2 ⟨rfl, b2⟩
  have K2 := Lib.hid (K1.out.below b2 K1.out.lt)
  have B2 := Lib.hid (B1.out.trans (b2.mono B1.out.size))
  have HB2 := Lib.hid (HB.out.below b2)
  have d2 := K2.out.cell 2
  have CK := Lib.hid (check_any p w2 (by have := HP.out; omega))
  clear b2 K1 B1 HB LK c0 c1
  obtain ⟨v, hv⟩ : ∃ v, v = chk p.data.toList := ⟨_, rfl⟩
  have HR := Lib.hid (show refO T (1, fr, p, m, t, i, s) = v by rw [hv]; unfold refO; simp [HG.out, HC.out])
  have hv0 : (v != 0) = true := by rw [hv]; simpa using HC.out
  unfold Checked at CK
  rw [← hv] at CK
  clear hv
  go_wp2_with fail
  refine CK.out.mono ?_
  rintro e w3 ⟨rfl, b3⟩
  have BB := Lib.hid (B2.out.trans (b3.mono B2.out.size))
  clear b3
  go_wp2_with fail
  go_ret
  exact ⟨by rw [HR.out]; rfl, BB.out⟩
set_option maxRecDepth 100000 in
set_option maxHeartbeats 4000000 in
theorem refuses_1ok (w : World) (b n : Nat) (T : Tr) (fr p : ByteArray) (m t i : Int) (s : ByteArray) (h : TreeIs w b n T) (hT : ∀ x ∈ T, x.1.size ≤ 1000000) (hfr : fr.size ≤ maxLen) (hp : p.size ≤ 1000000) (hg : (getT T fr).isSome = true) (hc : chk p.data.toList = 0) :
    Calls Tryd.prog 39 #[.map (some b), .agg (opC 1 fr p m t i s)] w fun e w' => e = .returned (.int .i64 (refO T (1, fr, p, m, t, i, s))) ∧ Below w.heap.size w w' := by
  have K1 := Lib.hid (Blk.new w 80 (opC 1 fr p m t i s))
  have B1 := Lib.hid ((Below.refl w.heap.size w).alloc (Nat.le_refl _) (.cells (opC 1 fr p m t i s) 80))
  have HB := Lib.hid (h.alloc (.cells (opC 1 fr p m t i s) 80))
  have HT := Lib.hid hT
  have HP := Lib.hid hp
  have HFR := Lib.hid hfr
  clear h hT hp hfr
  rw [show refO T (1, fr, p, m, t, i, s) = refV T fr p by unfold refO; simp [hg, hc]]
  have c0 := K1.out.cell 0
  have c1 := K1.out.cell 1
  have LK := Lib.hid (lacks_any _ b n T fr HB.out HFR.out)
  rw [hg] at LK
  have HG := Lib.hid hg
  have HC := Lib.hid hc
  clear hg hc
  go_enter Tryd.func39, Tryd.ntmps39
  go_wp2_with fail
  refine LK.out.mono ?_
  rintro e w2 ⟨rfl, b2⟩
  have K2 := Lib.hid (K1.out.below b2 K1.out.lt)
  have B2 := Lib.hid (B1.out.trans (b2.mono B1.out.size))
  have HB2 := Lib.hid (HB.out.below b2)
  have d2 := K2.out.cell 2
  have CK := Lib.hid (check_any p w2 (by have := HP.out; omega))
  clear b2 K1 B1 HB LK c0 c1
  unfold Checked at CK
  rw [HC.out] at CK
  go_wp2_with fail
  refine CK.out.mono ?_
  rintro e w3 ⟨rfl, b3⟩
  have K1 := Lib.hid (K2.out.below b3 K2.out.lt)
  have B1 := Lib.hid (B2.out.trans (b3.mono B2.out.size))
  have HB := Lib.hid (HB2.out.below b3)
  clear b3 K2 B2 HB2 CK d2
  go_upto_region 12 with fail
  generalize hW : w3 = W at *
  clear hW
  go_wp2_with (first
    | (at_range; go_loud (refine wpList_range_own _ rfl _ 71 rfl 9 77 keyed_s Tryd.underlying71 fileR b n (mapD T) rfl HB.out ?_; intro w0 hrg0 hg0 hs0))
    | go_in)
  go_frame
  go_loopw [7] (fun _ wr => ∃ (left : Lit → Bool) (cnt : Nat), wr.ranges Tryd.prog 9 fileR b W.heap.size n (mapD T) left cnt ∧ Hid (W.grownBy wr none) ∧ Hid (∀ x ∈ T, left (kS x.1) = false → badX fr p x = false))
    (fun _ wr => wr.rangeLeft b W.heap.size)
  case atStart => exact ⟨_, _, hrg0, Lib.hid hg0, Lib.hid (fun x hx hl => by rw [has_mem hx] at hl; cases hl)⟩
  case round =>
    obtain ⟨left, cnt, hrg, hgw, hbad⟩ := hrel
    go_wp2_with (first
      | (at_next; refine wpList_next_ranges _ rfl _ rfl 9 keyed_s fileR Value.string fV (fun key kl hk => by obtain ⟨s, rfl, _⟩ := WideMaps.string_of_keyOf Tryd.underlying9 hk; exact ⟨s, rfl⟩) (fun v y hv => by obtain ⟨f, rfl, _⟩ := fileR_inv hv; exact ⟨f, rfl⟩) b W.heap.size n _ _ _ rfl hrg ?_ ?_)
      | go_in)
    · intro _ hl0
      have HR := Lib.hid (refV_no (T := T) (fr := fr) (p := p) <| List.any_eq_false.2 fun x hx => by rw [hbad.out x hx (hl0 _)]; simp)
      have HBB := Lib.hid (B1.out.grown hgw.out B1.out.size (fun z hz => by cases hz))
      go_wp2
      go_ret
      exact ⟨by rw [HR.out]; rfl, HBB.out⟩
    · intro x c kl y1 y2 w1 cnt1 hkey hlx hy hat hrg1 hlt hg1 hs1 hen
      obtain ⟨s', e1, e2, hsz⟩ := WideMaps.string_of_keyOf Tryd.underlying9 hkey
      cases e1
      have hkl : kl = kS x := e2
      subst hkl
      have hyD : y1 = fD c := by rw [fileR_mk] at hy; cases hy; rfl
      subst hyD
      have hmem := mem_of_at (T := T) (x := x) (c := c) hat
      have hg1' := hgw.out.andThen hg1 (row := none) (fun j hj => by cases hj; exact .inl (Nat.le_refl _))
      have KX := K1.out.grown hg1' (by simp)
      have x1 := KX.cell 1
      have x2 := KX.cell 2
      have HG1 := Lib.hid hg1'
      have HRG := Lib.hid hrg1
      have HOLD := Lib.hid hrg
      have HLT := Lib.hid hlt
      have CL := Lib.hid (clash_any x p w1 (HT.out _ hmem) HP.out)
      have HST := Lib.hid (fun (hb : badX fr p (x, c) = false) => (show ∀ z ∈ T, (left (kS z.1) && !(kS z.1).sameKey (kS x)) = false → badX fr p z = false from fun z hz hl => by
        cases hlz : left (kS z.1) with
        | false => exact hbad.out z hz hlz
        | true =>
          rw [hlz, same_kS] at hl
          simp at hl
          unfold badX at hb ⊢
          rw [hl]
          exact hb))
      have HMEM := Lib.hid hmem
      unfold fV at hen
      clear hkey hlx hy hat hrg1 hlt hg1 hg1' KX hrg hbad hgw hmem hsz
      by_cases hxf : x = fr
      · have hb : badX fr p (x, c) = false := by unfold badX; rw [hxf]; simp
        have HS2 := Lib.hid (HST.out hb)
        have hq1 : (x.toList == fr.toList) = true := by rw [hxf]; exact beq_self_eq_true _
        clear hb
        go_wp2_with fail
        go_roundw
        case rel => exact ⟨_, cnt1, HRG.out, HG1, HS2⟩
        case measure => rw [HRG.out.left_eq, HOLD.out.left_eq]; exact HLT.out
      · have hq3 : decide (x = fr) = false := decide_eq_false hxf
        cases hcl : cls x.data.toList p.data.toList with
        | true =>
          rw [hcl] at CL
          have hb : badX fr p (x, c) = true := by unfold badX; rw [decide_eq_false hxf, hcl]; rfl
          have HRR := Lib.hid (refV_yes (T := T) (fr := fr) (p := p) (List.any_eq_true.2 ⟨_, HMEM.out, hb⟩))
          have HBB := Lib.hid (B1.out.grown HG1.out B1.out.size (fun z hz => by cases hz))
          have hq1 : (x.toList == fr.toList) = false := by
            rw [beq_eq_false_iff_ne]
            exact fun e => hxf (by rw [ByteArray.toList_eq, ByteArray.toList_eq] at e; exact bytes_ext e)
          clear hb hcl
          go_wp2_with fail
          refine CL.out.mono ?_
          rintro e w' ⟨rfl, rfl⟩
          go_wp2
          go_ret
          exact ⟨by rw [HRR.out]; rfl, HBB.out⟩
        | false =>
          rw [hcl] at CL
          have hb : badX fr p (x, c) = false := by unfold badX; rw [hcl]; simp
          have HS2 := Lib.hid (HST.out hb)
          have hq1 : (x.toList == fr.toList) = false := by
            rw [beq_eq_false_iff_ne]
            exact fun e => hxf (by rw [ByteArray.toList_eq, ByteArray.toList_eq] at e; exact bytes_ext e)
          clear hb hcl
          go_wp2_with fail
          refine CL.out.mono ?_
          rintro e w' ⟨rfl, rfl⟩
          go_wp2_with fail
          go_roundw
          case rel => exact ⟨_, cnt1, HRG.out, HG1, HS2⟩
          case measure => rw [HRG.out.left_eq, HOLD.out.left_eq]; exact HLT.out
theorem refuses_any (w : World) (b n : Nat) (T : Tr) (o : Ov) (h : TreeIs w b n T) (hT : ∀ x ∈ T, x.1.size ≤ 1000000) (hfr : o.2.1.size ≤ maxLen) (hp : o.2.2.1.size ≤ 1000000) (hk : o.1 = 0 ∨ o.1 = 1 ∨ o.1 = 2) :
    Calls Tryd.prog 39 #[.map (some b), opA o] w fun e w' => e = .returned (.int .i64 (refO T o)) ∧ Below w.heap.size w w' := by
  obtain ⟨k, fr, p, m, t, i, s⟩ := o
  dsimp only at hk hfr hp
  rcases hk with rfl | rfl | rfl
  · exact refuses_0 w b n T fr p m t i s h hT hfr hp
  · cases hg : (getT T fr).isSome with
    | false => exact refuses_1no w b n T fr p m t i s h hT hfr hp hg
    | true =>
      by_cases hc : chk p.data.toList = 0
      · exact refuses_1ok w b n T fr p m t i s h hT hfr hp hg hc
      · exact refuses_1bad w b n T fr p m t i s h hT hfr hp hg hc
  · exact refuses_2 w b n T fr p m t i s h hT hfr hp

set_option maxRecDepth 100000 in
set_option maxHeartbeats 2000000 in
theorem do_0 (w : World) (b n : Nat) (T : Tr) (fr p : ByteArray) (m t i : Int) (s : ByteArray) (h : TreeIs w b n T) (hn : n < maxLen) (hp : p.size ≤ maxLen) :
    Calls Tryd.prog 40 #[.map (some b), .agg (opC 0 fr p m t i s)] w fun e w' => e = .returned (.tuple #[]) ∧ TreeIs w' b (n + 1) (putT T p ⟨m, t, i, s⟩) ∧ w.grownBy w' (some b) :=
  do_write w b n T fr p ⟨m, t, i, s⟩ h hn hp
set_option maxRecDepth 100000 in
set_option maxHeartbeats 2000000 in
theorem do_2 (w : World) (b n : Nat) (T : Tr) (fr p : ByteArray) (m t i : Int) (s : ByteArray) (h : TreeIs w b n T) (hfr : fr.size ≤ maxLen) :
    Calls Tryd.prog 40 #[.map (some b), .agg (opC 2 fr p m t i s)] w fun e w' => e = .returned (.tuple #[]) ∧ TreeIs w' b (n + 1) (delT T fr) ∧ w.grownBy w' (some b) := by
  have K1 := Blk.new w 80 (opC 2 fr p m t i s)
  have c0 := K1.cell 0
  have c1 := K1.cell 1
  obtain ⟨w2, hrun, ho, hm⟩ := (h.alloc (.cells (opC 2 fr p m t i s) 80)).drop hfr 0
  have HG := Lib.hid ((World.grownBy_alloc w (.cells (opC 2 fr p m t i s) 80) (some b)).andThen hm.grown (row := some b) (fun j hj => by cases hj; exact .inr rfl))
  have HO := Lib.hid (ho.mono (Nat.le_succ n))
  clear h ho hm K1
  go_enter Tryd.func40, Tryd.ntmps40
  go_wp2
  exact ⟨rfl, _, (by first | rfl | kernel_rfl), rfl, HO.out, HG.out⟩
set_option maxRecDepth 100000 in
set_option maxHeartbeats 4000000 in
theorem do_1 (w : World) (b n : Nat) (T : Tr) (fr p : ByteArray) (m t i : Int) (s : ByteArray) (h : TreeIs w b n T) (hn : n < maxLen) (hfr : fr.size ≤ maxLen) (hp : p.size ≤ maxLen) :
    Calls Tryd.prog 40 #[.map (some b), .agg (opC 1 fr p m t i s)] w fun e w' => e = .returned (.tuple #[]) ∧ TreeIs w' b (n + 1) (putT (delT T fr) p ((getT T fr).getD noF)) ∧ w.grownBy w' (some b) := by
  have K1 := Blk.new w 80 (opC 1 fr p m t i s)
  have c0 := K1.cell 0
  have c1 := K1.cell 1
  have f3 := K1.frozen 3
  have f4 := K1.frozen 4
  have f5 := K1.frozen 5
  have f6 := K1.frozen 6
  have c3 := K1.cell 3
  have c4 := K1.cell 4
  have c5 := K1.cell 5
  have c6 := K1.cell 6
  have h1 := h.alloc (.cells (opC 1 fr p m t i s) 80)
  have lk := h1.look hfr
  obtain ⟨f, hf⟩ : ∃ f, f = (getT T fr).getD noF := ⟨_, rfl⟩
  rw [← hf] at lk ⊢
  obtain ⟨fm, ft, fi, fd⟩ := f
  have hbne : b ≠ w.heap.size := by have := h.lt; omega
  have K2 := Blk.new w 80 (opC 1 fr p fm ft fi fd)
  have h2 := h.alloc (.cells (opC 1 fr p fm ft fi fd) 80)
  have G2 := World.grownBy_alloc w (.cells (opC 1 fr p fm ft fi fd) 80) (some b)
  obtain ⟨w3, hrun, ho, hm⟩ := h2.drop hfr 0
  have d1 := K2.cell 1
  have G3 := G2.andThen hm.grown (row := some b) (fun j hj => .inr hj)
  have K3 : Blk w3 w.heap.size 80 (opC 1 fr p fm ft fi fd) := K2.grown hm.grown (fun e => hbne (Option.some.inj e).symm)
  obtain ⟨w4, hrun4, ho4, hm4⟩ := ho.put hn hp ⟨fm, ft, fi, fd⟩
  have e2 := K3.cell 2
  have e3 := K3.cell 3
  have e4 := K3.cell 4
  have e5 := K3.cell 5
  have e6 := K3.cell 6
  have HG := Lib.hid (G3.andThen hm4.grown (row := some b) (fun j hj => .inr hj))
  have HO := Lib.hid ho4
  unfold fV at lk hrun4
  clear h ho hm ho4 hm4 K1 K2 K3 G2 G3 h1 h2 hf hbne
  go_enter Tryd.func40, Tryd.ntmps40
  go_wp2
  exact ⟨rfl, _, (by first | rfl | kernel_rfl), rfl, HO.out, HG.out⟩
theorem do_any (w : World) (b n : Nat) (T : Tr) (o : Ov) (h : TreeIs w b n T) (hn : n < maxLen) (hfr : o.2.1.size ≤ maxLen) (hp : o.2.2.1.size ≤ maxLen) (hk : o.1 = 0 ∨ o.1 = 1 ∨ o.1 = 2) :
    Calls Tryd.prog 40 #[.map (some b), opA o] w fun e w' => e = .returned (.tuple #[]) ∧ TreeIs w' b (n + 1) (doO T o) ∧ w.grownBy w' (some b) := by
  obtain ⟨k, fr, p, m, t, i, s⟩ := o
  dsimp only at hk hfr hp
  rcases hk with rfl | rfl | rfl
  · exact do_0 w b n T fr p m t i s h hn hp
  · exact do_1 w b n T fr p m t i s h hn hfr hp
  · exact do_2 w b n T fr p m t i s h hfr
end Go.Proofs.YtcnmlgmlijgmhaaDoor
