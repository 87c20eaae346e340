/-
  The document's disk: why a file may not be written; a file as it would be.
  simfs: why a file is refused: all causes.
  simfs: slices.Clone of bools, of ops.
  simfs: Write, Edit, Unlink, Quota, Arm, of a disk told by its values.
  simfs: Edit, Unlink, of a disk told by its values.
-/
import Derived.Test.YtcnmlgmlijgmhaaDoorUA
import Derived.Deep.QuietTactic

namespace Go.Proofs.YtcnmlgmlijgmhaaDoor
open Go Go.RowKit Go.Shelf Go.Maps

def oldV (T : Tr) (p : ByteArray) : Nat := ((getT T p).getD noF).data.size
/-- Whether the quota has no room. -/
def fullB (D : DK) (p : ByteArray) (n : Nat) : Bool := decide (0 < D.q) && (decide (oldV D.T p < n) && decide (D.q < (usedV D.T : Int) - oldV D.T p + n))
/-- Why a file may not be written. -/
def refF (D : DK) (p : ByteArray) (mode : Int) (n : Nat) : Int :=
  if D.off then 13 else if chk p.data.toList ≠ 0 then chk p.data.toList else if 65536 < n then 4 else if mode ≠ 1 ∧ mode ≠ 2 then 1 else if D.T.any (badX e0 p) then 11 else if fullB D p n then 14 else 0
section
variable {D : DK} {p : ByteArray} {mode : Int} {n : Nat}
theorem refF_off (h : D.off = true) : refF D p mode n = 13 := by unfold refF; rw [if_pos h]
theorem refF_chk (h : D.off = false) (hc : chk p.data.toList ≠ 0) : refF D p mode n = chk p.data.toList := by unfold refF; rw [if_neg (by simp [h]), if_pos hc]
theorem refF_long (h : D.off = false) (hc : chk p.data.toList = 0) (hn : 65536 < n) : refF D p mode n = 4 := by unfold refF; rw [if_neg (by simp [h]), if_neg (by simp [hc]), if_pos hn]
theorem refF_mode (h : D.off = false) (hc : chk p.data.toList = 0) (hn : ¬ 65536 < n) (hm : mode ≠ 1 ∧ mode ≠ 2) : refF D p mode n = 1 := by unfold refF; rw [if_neg (by simp [h]), if_neg (by simp [hc]), if_neg hn, if_pos hm]
theorem refF_way (h : D.off = false) (hc : chk p.data.toList = 0) (hn : ¬ 65536 < n) (hm : ¬ (mode ≠ 1 ∧ mode ≠ 2)) (hw : D.T.any (badX e0 p) = true) : refF D p mode n = 11 := by unfold refF; rw [if_neg (by simp [h]), if_neg (by simp [hc]), if_neg hn, if_neg hm, if_pos hw]
theorem refF_last (h : D.off = false) (hc : chk p.data.toList = 0) (hn : ¬ 65536 < n) (hm : ¬ (mode ≠ 1 ∧ mode ≠ 2)) (hw : D.T.any (badX e0 p) = false) : refF D p mode n = if fullB D p n then 14 else 0 := by unfold refF; rw [if_neg (by simp [h]), if_neg (by simp [hc]), if_neg hn, if_neg hm, if_neg (by simp [hw])]
end
set_option maxRecDepth 100000 in
set_option maxHeartbeats 8000000 in
theorem cause_any {w : World} {B G : Nat} {K : Value → List Bool → Prop} {kv nv wv kev : Value} {left : Int} {D : DK} (h : DocIs w B G K kv nv wv left kev D) (p : ByteArray) (mode : Int) (n : Nat) (hl : D.T.length ≤ 1000) (hu : usedV D.T ≤ 1000000000) (hT : Short D.T) (hp : p.size ≤ 1000) (hn : n ≤ 1000000000) :
    Calls Tryd.prog 41 #[.pointer (some ⟨G, 0, none⟩), .string p, .int .i64 mode, .int .i64 n] w fun e w' => e = .returned (.int .i64 (refF D p mode n)) ∧ Below w.heap.size w w' := by
  obtain ⟨An, cn, rfl⟩ := own_form h.n
  have c6 := h.x.cell 6
  have H := Lib.hid h
  have CK := Lib.hid (refCheck_any p w (by omega))
  have HT := Lib.hid hT
  have HU := Lib.hid hu
  clear h hT hu
  cases ho : D.off with
  | true =>
    rw [ho] at c6
    rw [refF_off ho]
    clear ho
    go_enter Tryd.func41, Tryd.ntmps41
    go_wp2
    go_ret
    exact ⟨rfl, Below.refl _ _⟩
  | false =>
  rw [ho] at c6
  unfold Checked at CK
  by_cases hc : chk p.data.toList = 0
  · rw [hc] at CK
    obtain ⟨r, hr⟩ : ∃ r, r = refF D p mode n := ⟨_, rfl⟩
    rw [← hr]
    have HR := Lib.hid hr
    have HC := Lib.hid (And.intro ho hc)
    have hn0 : (0 : Int) ≤ (n : Int) := Int.natCast_nonneg _
    clear hr ho hc
    go_enter Tryd.func41, Tryd.ntmps41
    go_wp2_with (go_at_call 45; go_loud (refine CK.out.mono ?_; rintro e w1 ⟨rfl, b1⟩; have H1 := Lib.hid (H.out.below b1); have B1 := Lib.hid b1; have c1 := H1.out.x.cell 1; have GT := Lib.hid (get_any w1 _ D.T p (OOwn.reads H1.out.n) (by omega)); clear b1 c6 CK))
    refine GT.out.mono ?_
    rintro e w1' ⟨rfl, rfl⟩
    obtain ⟨k, hk⟩ : ∃ k, k = idxV D.T p := ⟨_, rfl⟩
    have IC := idx_cases D.T p
    rw [← hk] at IC ⊢
    clear hk GT
    go_upto_if 28 with fail
    go_cut [11] (fun s11 wx => s11 = .int .i64 (oldV D.T p : Nat) ∧ Hid (wx = w1))
    case first =>
      rcases IC with ⟨i, f, hx, rfl, hg⟩ | ⟨rfl, hg⟩
      · have i0 : (0 : Int) ≤ (i : Int) := Int.natCast_nonneg _
        have i1 : (i : Int) < (D.T.length : Int) := by have := (List.getElem?_eq_some_iff.1 hx).1; omega
        obtain ⟨ad, rfl, k0, k1, _, _, _⟩ := Ones.at_ (show Reads 5 cN w1 (.slice An D.T.length cn) (D.T.map on) from OOwn.reads H1.out.n) hx
        have HO := Lib.hid (show oldV D.T p = f.data.size by unfold oldV; rw [hg]; rfl)
        clear hx hg
        go_wp2_with fail
        go_meet
        exact ⟨by rw [HO.out], Lib.hid rfl⟩
      · have HO := Lib.hid (show oldV D.T p = 0 by unfold oldV; rw [hg]; rfl)
        clear hg
        go_wp2_with fail
        go_meet
        exact ⟨by rw [HO.out]; rfl, Lib.hid rfl⟩
    obtain ⟨rfl, hwx⟩ := hcut
    obtain rfl := hwx.out
    clear IC hwx c1
    have c1 := H1.out.x.cell 1
    have c3 := H1.out.x.cell 3
    have CL := clash46_any _ _ D.T p p (OOwn.reads H1.out.n) (by omega) HT.out (by omega)
    have US := Lib.hid (used54_any _ _ D.T (OOwn.reads H1.out.n) (by omega) (by have := HU.out; omega))
    obtain ⟨q, hq⟩ : ∃ q, q = D.q := ⟨_, rfl⟩
    obtain ⟨o, ho⟩ : ∃ o, o = oldV D.T p := ⟨_, rfl⟩
    obtain ⟨us, hus⟩ : ∃ u, u = usedV D.T := ⟨_, rfl⟩
    have hol : o ≤ us := by
      rw [ho, hus]
      unfold oldV
      cases hg : getT D.T p with
      | none => exact Nat.zero_le _
      | some f =>
        obtain ⟨i, hi⟩ := List.getElem?_of_mem (getT_mem hg)
        have h1 := usedN_step hi
        have h2 := usedN_le D.T (i + 1)
        show f.data.size ≤ _
        omega
    have husb : us ≤ 1000000000 := by rw [hus]; exact HU.out
    rw [← hus] at US
    rw [← ho]
    rw [← hq] at c3
    have QV := Lib.hid (And.intro hq (And.intro ho hus))
    clear hq ho hus
    have o0 : (0 : Int) ≤ (o : Int) := Int.natCast_nonneg _
    have hoz : (o : Int) ≤ (us : Int) := by omega
    have husz : (us : Int) ≤ 1000000000 := by omega
    by_cases hn1 : 65536 < n
    · have HQ := Lib.hid (refF_long (mode := mode) (p := p) HC.out.1 HC.out.2 hn1)
      have CL := Lib.hid CL
      have d1 : decide ((65536 : Int) < (n : Int)) = true := decide_eq_true (by omega)
      clear hn1
      go_wp2_with (first
        | (go_at_call 46; refine CL.out.mono ?_; rintro e w' ⟨rfl, rfl⟩)
        | (go_at_call 54; refine US.out.mono ?_; rintro e w' ⟨rfl, rfl⟩))
      go_ret
      exact ⟨by rw [HR.out, HQ.out]; rfl, B1.out⟩
    have d1 : decide ((65536 : Int) < (n : Int)) = false := decide_eq_false (by omega)
    by_cases hm : mode ≠ 1 ∧ mode ≠ 2
    · have HQ := Lib.hid (refF_mode (n := n) (p := p) HC.out.1 HC.out.2 hn1 hm)
      have CL := Lib.hid CL
      have m1 : (mode != 1) = true := by simpa using hm.1
      have m2 : (mode != 2) = true := by simpa using hm.2
      clear hn1 hm
      go_wp2_with (first
        | (go_at_call 46; refine CL.out.mono ?_; rintro e w' ⟨rfl, rfl⟩)
        | (go_at_call 54; refine US.out.mono ?_; rintro e w' ⟨rfl, rfl⟩))
      go_ret
      exact ⟨by rw [HR.out, HQ.out]; rfl, B1.out⟩
    have hm1 : (mode != 1) = true ∧ (mode != 2) = false ∨ (mode != 1) = false := by
      by_cases e1 : mode = 1
      · exact .inr (by simp [e1])
      · have e2 : mode = 2 := by
          by_cases e2 : mode = 2
          · exact e2
          · exact absurd ⟨e1, e2⟩ hm
        subst e2
        exact .inl ⟨rfl, rfl⟩
    cases hw : D.T.any (badX p p) with
    | true =>
      rw [hw] at CL
      have HQ := Lib.hid (refF_way HC.out.1 HC.out.2 hn1 hm (by rw [badX_self]; exact hw))
      have CL := Lib.hid CL
      clear hn1 hm hw
      rcases hm1 with ⟨m1, m2⟩ | m1
      all_goals
        go_wp2_with (first
          | (go_at_call 46; refine CL.out.mono ?_; rintro e w' ⟨rfl, rfl⟩)
          | (go_at_call 54; refine US.out.mono ?_; rintro e w' ⟨rfl, rfl⟩))
        go_ret
        exact ⟨by rw [HR.out, HQ.out]; rfl, B1.out⟩
    | false =>
      rw [hw] at CL
      have HL := Lib.hid (refF_last HC.out.1 HC.out.2 hn1 hm (by rw [badX_self]; exact hw))
      have CL := Lib.hid CL
      clear hn1 hm hw
      by_cases hq0 : 0 < q
      · have dq : decide (0 < q) = true := decide_eq_true hq0
        by_cases hqn : q < (us : Int) - (o : Int) + (n : Int)
        · have dn : decide (q < (us : Int) - (o : Int) + (n : Int)) = true := decide_eq_true hqn
          by_cases hno : o < n
          · have do_ : decide ((o : Int) < (n : Int)) = true := decide_eq_true (by omega)
            have HQ := Lib.hid (show refF D p mode n = 14 by rw [HL.out]; unfold fullB; rw [← QV.out.1, ← QV.out.2.1, ← QV.out.2.2, dq, dn, decide_eq_true hno]; rfl)
            clear hq0 hqn
            rcases hm1 with ⟨m1, m2⟩ | m1
            all_goals
              go_upto_region 16 with (go_at_call 46; refine CL.out.mono ?_; rintro e w' ⟨rfl, rfl⟩)
              go_quiet ((go_at_call 54; exact Calls.quiet_of_same ((used54_any _ _ D.T ((OOwn.reads H1.out.n).drewN _) (by omega) (by have := HU.out; omega)).mono (fun _ _ h => ⟨by rw [h.1, ← QV.out.2.2], h.2.symm⟩))))
              go_wp2_with fail
              go_ret
              exact ⟨by rw [HR.out, HQ.out]; rfl, below_drewE B1.out _⟩
          · have do_ : decide ((o : Int) < (n : Int)) = false := decide_eq_false (by omega)
            have HQ := Lib.hid (show refF D p mode n = 0 by rw [HL.out]; unfold fullB; rw [← QV.out.1, ← QV.out.2.1, ← QV.out.2.2, decide_eq_false hno]; simp)
            clear hq0 hqn
            rcases hm1 with ⟨m1, m2⟩ | m1
            all_goals
              go_upto_region 16 with (go_at_call 46; refine CL.out.mono ?_; rintro e w' ⟨rfl, rfl⟩)
              go_quiet ((go_at_call 54; exact Calls.quiet_of_same ((used54_any _ _ D.T ((OOwn.reads H1.out.n).drewN _) (by omega) (by have := HU.out; omega)).mono (fun _ _ h => ⟨by rw [h.1, ← QV.out.2.2], h.2.symm⟩))))
              go_wp2_with fail
              go_ret
              exact ⟨by rw [HR.out, HQ.out]; rfl, below_drewE B1.out _⟩
        · have dn : decide (q < (us : Int) - (o : Int) + (n : Int)) = false := decide_eq_false hqn
          have HQ := Lib.hid (show refF D p mode n = 0 by rw [HL.out]; unfold fullB; rw [← QV.out.1, ← QV.out.2.1, ← QV.out.2.2, dn]; simp)
          clear hq0 hqn
          rcases hm1 with ⟨m1, m2⟩ | m1
          all_goals
            go_upto_region 16 with (go_at_call 46; refine CL.out.mono ?_; rintro e w' ⟨rfl, rfl⟩)
            go_quiet ((go_at_call 54; exact Calls.quiet_of_same ((used54_any _ _ D.T ((OOwn.reads H1.out.n).drewN _) (by omega) (by have := HU.out; omega)).mono (fun _ _ h => ⟨by rw [h.1, ← QV.out.2.2], h.2.symm⟩))))
            go_wp2_with fail
            go_ret
            exact ⟨by rw [HR.out, HQ.out]; rfl, below_drewE B1.out _⟩
      · have dq : decide (0 < q) = false := decide_eq_false hq0
        have HQ := Lib.hid (show refF D p mode n = 0 by rw [HL.out]; unfold fullB; rw [← QV.out.1, dq]; simp)
        clear hq0
        rcases hm1 with ⟨m1, m2⟩ | m1
        all_goals
          go_upto_region 16 with (go_at_call 46; refine CL.out.mono ?_; rintro e w' ⟨rfl, rfl⟩)
          go_quiet ((go_at_call 54; exact Calls.quiet_of_same ((used54_any _ _ D.T ((OOwn.reads H1.out.n).drewN _) (by omega) (by have := HU.out; omega)).mono (fun _ _ h => ⟨by rw [h.1, ← QV.out.2.2], h.2.symm⟩))))
          go_wp2_with fail
          go_ret
          exact ⟨by rw [HR.out, HQ.out]; rfl, below_drewE B1.out _⟩
  · obtain ⟨v, hv⟩ : ∃ v, v = chk p.data.toList := ⟨_, rfl⟩
    rw [refF_chk ho hc, ← hv]
    rw [← hv] at CK hc
    have hv0 : (v != 0) = true := by simpa using hc
    clear ho hc hv
    go_enter Tryd.func41, Tryd.ntmps41
    go_wp2_with (go_at_call 45; refine CK.out.mono ?_; rintro e w1 ⟨rfl, b1⟩; have B1 := Lib.hid b1; clear b1)
    go_ret
    exact ⟨rfl, B1.out⟩
end Go.Proofs.YtcnmlgmlijgmhaaDoor

namespace Go.Proofs.YtcnmlgmlijgmhaaDoor
open Go Go.RowKit Go.Shelf Go.Maps

theorem old_le (T : Tr) (p : ByteArray) : oldV T p ≤ usedV T := by
  unfold oldV
  cases hg : getT T p with
  | none => exact Nat.zero_le _
  | some f =>
    obtain ⟨i, hi⟩ := List.getElem?_of_mem (getT_mem hg)
    have h1 := usedN_step hi
    have h2 := usedN_le T (i + 1)
    show f.data.size ≤ _
    omega
theorem old_get (T : Tr) (p : ByteArray) : ((getT T p).getD noF).data.size = oldV T p := by
  unfold oldV
  cases getT T p <;> rfl
set_option maxRecDepth 100000 in
set_option maxHeartbeats 8000000 in
theorem refusesFile_any {w : World} {B N : Nat} {L : Loc} {D : DK} (h : DiskIs w B L N D) (p : ByteArray) (mode : Int) (v : Value) (s : ByteArray) (hv : BytesIn w L.foot v s) (hp : p.size ≤ 1000) (hu : usedV D.T ≤ 1000000000) (hs : s.size ≤ 1000000000) :
    Calls Tryd.prog 55 #[.pointer (some ⟨L.F, 0, none⟩), .string p, .int .i64 mode, v] w fun e w' => e = .returned (.int .i64 (refF D p mode s.size)) ∧ Below w.heap.size w w' := by
  obtain ⟨A, c, rfl⟩ := (hv.of (Turns.refl _ _) (.inl rfl)).form
  have fs := h.fs
  have HFS := Lib.hid fs
  have x7 := fs.x.cell 7
  have CK := Lib.hid (check_any p w (by omega))
  have HT := Lib.hid (show ∀ x ∈ D.T, x.1.size ≤ 1000000 from fun x hx => Nat.le_trans (h.sT x hx) (by omega))
  have HU := Lib.hid hu
  clear h hv hu fs
  cases ho : D.off with
  | true =>
    rw [ho] at x7
    rw [refF_off ho]
    clear ho
    go_enter Tryd.func55, Tryd.ntmps55
    go_wp2
    go_ret
    exact ⟨rfl, Below.refl _ _⟩
  | false =>
  rw [ho] at x7
  unfold Checked at CK
  by_cases hc : chk p.data.toList = 0
  · rw [hc] at CK
    have HC := Lib.hid (And.intro ho hc)
    obtain ⟨n, hn⟩ : ∃ n, n = s.size := ⟨_, rfl⟩
    rw [← hn] at hs ⊢
    clear ho hc hn
    by_cases hn1 : 65536 < n
    · have HQ := Lib.hid (refF_long (mode := mode) (p := p) HC.out.1 HC.out.2 hn1)
      have d1 : decide ((65536 : Int) < (n : Int)) = true := decide_eq_true (by omega)
      have d2 : (65536 : Int) < (n : Int) := by omega
      rw [HQ.out]
      clear hn1
      go_enter Tryd.func55, Tryd.ntmps55
      go_wp2_with fail
      refine CK.out.mono ?_
      rintro e w1 ⟨rfl, b1⟩
      have B1 := Lib.hid b1
      clear b1 CK x7
      go_wp2_with fail
      go_ret
      exact ⟨rfl, B1.out⟩
    have d1 : decide ((65536 : Int) < (n : Int)) = false := decide_eq_false (by omega)
    have d2 : ¬ (65536 : Int) < (n : Int) := by omega
    have d3 : (n : Int) ≤ 65536 := by omega
    by_cases hm : mode ≠ 1 ∧ mode ≠ 2
    · have HQ := Lib.hid (refF_mode (n := n) (p := p) HC.out.1 HC.out.2 hn1 hm)
      have m1 : (mode != 1) = true := by simpa using hm.1
      have m2 : (mode != 2) = true := by simpa using hm.2
      rw [HQ.out]
      clear hn1 hm
      go_enter Tryd.func55, Tryd.ntmps55
      go_wp2_with fail
      refine CK.out.mono ?_
      rintro e w1 ⟨rfl, b1⟩
      have B1 := Lib.hid b1
      clear b1 CK x7
      go_wp2_with fail
      go_ret
      exact ⟨rfl, B1.out⟩
    have hm1 : (mode != 1) = true ∧ (mode != 2) = false ∨ (mode != 1) = false := by
      by_cases e1 : mode = 1
      · exact .inr (by simp [e1])
      · have e2 : mode = 2 := by
          by_cases e2 : mode = 2
          · exact e2
          · exact absurd ⟨e1, e2⟩ hm
        subst e2
        exact .inl ⟨rfl, rfl⟩
    obtain ⟨r, hr⟩ : ∃ r, r = refF D p mode n := ⟨_, rfl⟩
    rw [← hr]
    have HR := Lib.hid hr
    clear hr
    cases hw : D.T.any (badX e0 p) with
    | true =>
      have HQ := Lib.hid (refF_way HC.out.1 HC.out.2 hn1 hm hw)
      have HW := Lib.hid hw
      clear hn1 hm hw
      go_enter Tryd.func55, Tryd.ntmps55
      go_wp2_with fail
      refine CK.out.mono ?_
      rintro e w1 ⟨rfl, b1⟩
      have FS1 := Lib.hid (HFS.out.below b1)
      have x0 := FS1.out.x.cell 0
      have RW := Lib.hid (refuses_write w1 L.bf N D.T ⟨#[]⟩ p noF FS1.out.f HT.out (by omega))
      have B1 := Lib.hid b1
      clear b1 CK x7
      rcases hm1 with ⟨m1, m2⟩ | m1
      all_goals
        go_wp2_with fail
        refine RW.out.mono ?_
        rintro e w2 ⟨rfl, b2⟩
        rw [refV_yes HW.out]
        have B2 := Lib.hid (B1.out.trans (b2.mono B1.out.size))
        clear b2 RW
        go_wp2_with fail
        go_ret
        exact ⟨by rw [HR.out, HQ.out]; rfl, B2.out⟩
    | false =>
      have HL := Lib.hid (refF_last HC.out.1 HC.out.2 hn1 hm hw)
      have HW := Lib.hid hw
      have hol := old_le D.T p
      have hus := HU.out
      obtain ⟨q, hq⟩ : ∃ q, q = D.q := ⟨_, rfl⟩
      obtain ⟨o, ho⟩ : ∃ o, o = oldV D.T p := ⟨_, rfl⟩
      obtain ⟨us, hus0⟩ : ∃ u, u = usedV D.T := ⟨_, rfl⟩
      rw [← hus0] at hus hol
      rw [← ho] at hol
      have o0 : (0 : Int) ≤ (o : Int) := Int.natCast_nonneg _
      have n0 : (0 : Int) ≤ (n : Int) := Int.natCast_nonneg _
      have hoz : (o : Int) ≤ (us : Int) := by omega
      have husz : (us : Int) ≤ 1000000000 := by omega
      have QV := Lib.hid (And.intro hq (And.intro ho hus0))
      clear hn1 hm hw hq ho hus0 hol hus
      go_enter Tryd.func55, Tryd.ntmps55
      go_wp2_with fail
      refine CK.out.mono ?_
      rintro e w1 ⟨rfl, b1⟩
      have FS1 := Lib.hid (HFS.out.below b1)
      have x0 := FS1.out.x.cell 0
      have RW := Lib.hid (refuses_write w1 L.bf N D.T ⟨#[]⟩ p noF FS1.out.f HT.out (by omega))
      have B1 := Lib.hid b1
      clear b1 CK x7
      rcases hm1 with ⟨m1, m2⟩ | m1
      all_goals
        go_wp2_with fail
        refine RW.out.mono ?_
        rintro e w2 ⟨rfl, b2⟩
        rw [refV_no HW.out]
        have FS2 := Lib.hid (FS1.out.below b2)
        have B2 := Lib.hid (B1.out.trans (b2.mono B1.out.size))
        have y0 := FS2.out.x.cell 0
        have y3 := FS2.out.x.cell 3
        rw [← QV.out.1] at y3
        have lk := FS2.out.f.look (p := p) (by unfold maxLen; omega)
        obtain ⟨f0, hf0⟩ : ∃ f, f = (getT D.T p).getD noF := ⟨_, rfl⟩
        have hfo : f0.data.size = o := by rw [hf0, old_get, QV.out.2.1]
        rw [← hf0] at lk
        unfold fV at lk
        have fi := fun W => field_data f0.mode f0.time f0.inode f0.data W
        have US := Lib.hid (show Calls Tryd.prog 35 #[.pointer (some ⟨L.F, 0, none⟩)] w2.drew fun e w' => e = .returned (.int .i64 us) ∧ Below w2.heap.size w2.drew w' from by
          rw [QV.out.2.2]
          exact used_any (FS2.out.below (Below.refl w2.heap.size w2).drew) (by have := HU.out; omega))
        clear hf0 b2 RW x0
        by_cases hq0 : 0 < q
        · have dq : decide (0 < q) = true := decide_eq_true hq0
          have q0' : 0 < q := hq0
          by_cases hno : o < n
          · have do_ : decide ((o : Int) < (n : Int)) = true := decide_eq_true (by omega)
            have do2 : (o : Int) < (n : Int) := by omega
            have do3 : decide (o < n) = true := decide_eq_true hno
            have wr1 : IntKind.i64.wrap ((us : Int) - (o : Int)) = (us : Int) - (o : Int) := IntWalk.i64_in _ (by omega)
            have wr2 : IntKind.i64.wrap ((us : Int) - (o : Int) + (n : Int)) = (us : Int) - (o : Int) + (n : Int) := IntWalk.i64_in _ (by omega)
            have HQ := Lib.hid (show r = if q < (us : Int) - (o : Int) + (n : Int) then 14 else 0 by
              rw [HR.out, HL.out]; unfold fullB; rw [← QV.out.1, ← QV.out.2.1, ← QV.out.2.2, dq, decide_eq_true hno]; simp)
            clear hq0 hno
            go_upto_region 14 with fail
            have z0 : w2.drew.cell? ⟨L.F, 3, none⟩ = some (.int .i64 q) := y3
            have Y := Lib.hid (show Blk w2.drew L.F 74 _ from FS2.out.x)
            go_region_held3 (fun w' => w'.cell? ⟨L.F, 3, none⟩ = some (.int .i64 q))
              (first | exact z0 | exact z6)
              ((go_at_call 35; (with_reducible refine US.out.mono ?_); rintro e w6 ⟨rfl, b6⟩; have z6 : w6.cell? ⟨L.F, 3, none⟩ = some (.int .i64 q) := (by rw [QV.out.1]; exact (Y.out.below b6 Y.out.lt).cell 3)))
            have HB := Lib.hid (show Below w.heap.size w w6 from (show Below w.heap.size w w2.drew from B2.out.drew).trans (b6.mono B2.out.size))
            clear z0 z6 b6
            by_cases hqn : q < (us : Int) - (o : Int) + (n : Int)
            · have dn : decide (q < (us : Int) - (o : Int) + (n : Int)) = true := decide_eq_true hqn
              have HQ2 := Lib.hid (show r = 14 by rw [HQ.out, if_pos hqn])
              go_wp2_with fail
              go_ret
              exact ⟨by rw [HQ2.out]; rfl, HB.out⟩
            · have dn : decide (q < (us : Int) - (o : Int) + (n : Int)) = false := decide_eq_false hqn
              have HQ2 := Lib.hid (show r = 0 by rw [HQ.out, if_neg hqn])
              go_wp2_with fail
              go_ret
              exact ⟨by rw [HQ2.out]; rfl, HB.out⟩
          · have do_ : decide ((o : Int) < (n : Int)) = false := decide_eq_false (by omega)
            have HQ := Lib.hid (show r = 0 by rw [HR.out, HL.out]; unfold fullB; rw [← QV.out.1, ← QV.out.2.1, ← QV.out.2.2, decide_eq_false hno]; simp)
            clear hq0
            go_upto_region 14 with fail
            go_quiet (fail)
            go_wp2_with fail
            go_ret
            exact ⟨by rw [HQ.out]; rfl, below_drewE B2.out _⟩
        · have dq : decide (0 < q) = false := decide_eq_false hq0
          have HQ := Lib.hid (show r = 0 by rw [HR.out, HL.out]; unfold fullB; rw [← QV.out.1, dq]; simp)
          go_upto_region 14 with fail
          go_quiet (fail)
          go_wp2_with fail
          go_ret
          exact ⟨by rw [HQ.out]; rfl, below_drewE B2.out _⟩
  · have hne : chk p.data.toList ≠ 0 := hc
    obtain ⟨x, hx⟩ : ∃ x, x = chk p.data.toList := ⟨_, rfl⟩
    rw [refF_chk ho hne, ← hx]
    rw [← hx] at CK hc
    have hv0 : (x != 0) = true := by simpa using hc
    clear ho hc hx hne
    go_enter Tryd.func55, Tryd.ntmps55
    go_wp2_with fail
    refine CK.out.mono ?_
    rintro e w1 ⟨rfl, b1⟩
    have B1 := Lib.hid b1
    clear b1 CK x7
    go_wp2_with fail
    go_ret
    exact ⟨rfl, B1.out⟩
end Go.Proofs.YtcnmlgmlijgmhaaDoor

namespace Go.Proofs.YtcnmlgmlijgmhaaDoor
open Go Go.RowKit Go.Shelf Go.Maps

abbrev aB (b : Bool) : Array Value := #[.bool b]
abbrev aO (o : Ov) : Array Value := opC o.1 o.2.1 o.2.2.1 o.2.2.2.1 o.2.2.2.2.1 o.2.2.2.2.2.1 o.2.2.2.2.2.2
theorem blInfo : (Tryd.prog.info? 4).map (fun i => (i.zero, i.size, i.bytes)) = some (some (.bool false), 1, 1) := by kernel_rfl
theorem bls_one (l : List Bool) : ∀ u ∈ l.flatMap cB, u.oneCell' = true := fun u hu => by
  obtain ⟨f, _, hf⟩ := List.mem_flatMap.1 hu
  simp [cB] at hf
  rcases hf with rfl <;> rfl
theorem run_append_bls (w : World) (ty : TypeId) (base : Nat) (v : Value) (xs ys : List Bool) (hown : w.ownsRow base 4 1 v xs.length (xs.flatMap cB)) (A : Option Addr) (m c : Nat) (h : Reads 1 cB w (.slice A m c) ys) (hl : xs.length + ys.length ≤ 1000000) (hbase : base ≤ w.heap.size) :
    ∃ A' c' w', (Builtin.append_ #[29, 29] ty #[v, .slice A m c]).run Tryd.prog w = .ok (.slice A' (xs ++ ys).length c') w' ∧ w'.ownsRow base 4 1 (.slice A' (xs ++ ys).length c') (xs ++ ys).length ((xs ++ ys).flatMap cB) ∧ Below base w w' ∧ w.grownBy w' v.ownBlock := by
  obtain ⟨i0, hi, hz0, hz1, hz2⟩ := info_parts blInfo
  obtain ⟨hm, hmc, hcm⟩ := h.len
  cases A with
  | none =>
    obtain ⟨A', c', hv, h1, h2, h3, h4⟩ := h
    injection hv with e1 e2 e3
    subst e1; subst e3
    have hc := h3 rfl
    subst hc
    have hm0 : m = 0 := by omega
    subst hm0
    have : ys = [] := List.eq_nil_of_length_eq_zero (by omega)
    subst this
    obtain ⟨A', c', rfl⟩ := own_form hown
    have hr := run_append_owned_none (P := Tryd.prog) (w := w) base 29 ty 4 i0 1 Tryd.underlying29 hi _ _ _ hown
    rw [List.append_nil]
    exact ⟨A', c', w, hr, hown, Below.refl _ _, World.grownBy.refl _ _⟩
  | some ad =>
    obtain ⟨v', w', hr, ho, hg, _⟩ := run_append_own (P := Tryd.prog) w base 29 ty 4 i0 (.bool false) 1 1 Tryd.underlying29 hi hz0 hz1 hz2 rfl (by decide) v xs.length (xs.flatMap cB) hown ad m c (ys.flatMap cB) (by rw [flat_len cB_len, hm]) (reads_flat cB_len (by decide) h) (bls_one ys) (by unfold maxLen; omega) (by omega) hbase
    have ho2 : w'.ownsRow base 4 1 v' (xs ++ ys).length ((xs ++ ys).flatMap cB) := by rw [List.length_append, List.flatMap_append, ← hm]; exact ho
    obtain ⟨A', c', rfl⟩ := own_form ho2
    exact ⟨A', c', w', hr, ho2, (Below.refl base w).grown hg hbase fun k hk => (hown.lt k hk).1, hg⟩
theorem wp_append_bls (w : World) {o : Oper} {a : Act} {K : Act → World → Prop} {Q : Exit → Act → World → Prop} (s x : Operand)
    (ho : o.op = .call { callee := .builtin .append, args := #[s, x], argTypes := #[29, 29] })
    (base : Nat) (v : Value) (xs ys : List Bool) (hs : a.eval s = v) (hown : w.ownsRow base 4 1 v xs.length (xs.flatMap cB)) (A : Option Addr) (m c : Nat) (hx : a.eval x = .slice A m c) (h : Reads 1 cB w (.slice A m c) ys) (hl : xs.length + ys.length ≤ 1000000) (hbase : base ≤ w.heap.size)
    (hk : ∀ A' c' w', w'.ownsRow base 4 1 (.slice A' (xs ++ ys).length c') (xs ++ ys).length ((xs ++ ys).flatMap cB) → Below base w w' → w.grownBy w' v.ownBlock → K (a.put o.dst (.slice A' (xs ++ ys).length c')) w') : o.wp Tryd.prog a w K Q := by
  obtain ⟨A', c', w', hr, h2, h3, h4⟩ := run_append_bls w o.type base v xs ys hown A m c h hl hbase
  unfold Oper.wp execOp
  simp only [ho, resolve, invoke, builtin, Sem.run_bind, Sem.run_pure, Result.andThen_ok, List.map_toArray, List.map_cons, List.map_nil, hs, hx, hr]
  exact hk A' c' w' h2 h3 h4
theorem wpList_append_bls (w : World) {ops : Array Oper} {rest : List Oper} {o : Oper} {a : Act} {Q : Exit → Act → World → Prop} (hgd : o.guard = none) (s x : Operand)
    (ho : o.op = .call { callee := .builtin .append, args := #[s, x], argTypes := #[29, 29] })
    (base : Nat) (v : Value) (xs ys : List Bool) (hs : a.eval s = v) (hown : w.ownsRow base 4 1 v xs.length (xs.flatMap cB)) (A : Option Addr) (m c : Nat) (hx : a.eval x = .slice A m c) (h : Reads 1 cB w (.slice A m c) ys) (hl : xs.length + ys.length ≤ 1000000) (hbase : base ≤ w.heap.size)
    (hk : ∀ A' c' w', w'.ownsRow base 4 1 (.slice A' (xs ++ ys).length c') (xs ++ ys).length ((xs ++ ys).flatMap cB) → Below base w w' → w.grownBy w' v.ownBlock → wpList Tryd.prog ops Q rest (a.put o.dst (.slice A' (xs ++ ys).length c')) w') : wpList Tryd.prog ops Q (o :: rest) a w :=
  wpList_plain hgd fun _ hK => wp_append_bls w s x ho base v xs ys hs hown A m c hx h hl hbase fun A' c' w' h2 h3 h4 => hK _ _ (hk A' c' w' h2 h3 h4)
theorem step_append_bls (w : World) {ops : Array Oper} {o : Oper} {a : Act} {K : Act → World → Prop} {Q : Exit → Act → World → Prop} {E : Prop} (hgd : o.guard = none) (s x : Operand)
    (ho : o.op = .call { callee := .builtin .append, args := #[s, x], argTypes := #[29, 29] })
    (base : Nat) (v : Value) (xs ys : List Bool) (hs : a.eval s = v) (hown : w.ownsRow base 4 1 v xs.length (xs.flatMap cB)) (A : Option Addr) (m c : Nat) (hx : a.eval x = .slice A m c) (h : Reads 1 cB w (.slice A m c) ys) (hl : xs.length + ys.length ≤ 1000000) (hbase : base ≤ w.heap.size) (n : Nat) (hn : n = (xs ++ ys).length)
    (hk : ∀ A' c' w', w'.ownsRow base 4 1 (.slice A' n c') (xs ++ ys).length ((xs ++ ys).flatMap cB) → Below base w w' → w.grownBy w' v.ownBlock → K (a.put o.dst (.slice A' n c')) w') :
    if Region.wanted o (yielded ops a.tmps) = true then Oper.wp Tryd.prog o a w K Q else E := by
  have hw : Region.wanted o (yielded ops a.tmps) = true := by simp [Region.wanted, hgd]
  subst hn
  rw [if_pos hw]
  exact wp_append_bls w s x ho base v xs ys hs hown A m c hx h hl hbase hk
theorem reads_one_bls {w : World} {g : Nat} (x : Bool) (z : Blk w g 4 (aB x)) : Reads 1 cB w (.slice (some ⟨g, 0, none⟩) 1 1) [x] := by
  refine ⟨some ⟨g, 0, none⟩, 1, rfl, Nat.le_refl _, by decide, by simp, fun ad hA i y hy j u hu => ?_⟩
  obtain rfl := Option.some.inj hA
  have hi : i = 0 := by
    have := (List.getElem?_eq_some_iff.1 hy).1
    simp at this
    exact this
  subst hi
  obtain rfl : x = y := by simpa using hy
  have hc : w.cell? ⟨g, j, none⟩ = (aB x)[j]? := z.cell j
  have he : (aB x)[j]? = (cB x)[j]? := by simp [cB, aB]
  cases j with
  | zero => unfold adr; rw [add_zero_addr]; exact hc.trans (he.trans hu)
  | succ j => unfold adr; rw [add_zero_addr]; exact (show w.cell? ⟨g, 0 * 1 + (j + 1), none⟩ = _ by rw [Nat.zero_mul, Nat.zero_add]; exact hc.trans (he.trans hu))
theorem own_made_bls (w : World) : (w.alloc (.cells #[] 4)).ownsRow w.heap.size 4 1 (.slice (some ⟨w.heap.size, 0, none⟩) 0 0) ([] : List Bool).length (([] : List Bool).flatMap cB) :=
  World.ownsRow_made w #[] 0 (Nat.le_refl _) (Nat.zero_le _) rfl
theorem ovInfo : (Tryd.prog.info? 80).map (fun i => (i.zero, i.size, i.bytes)) = some (some (.agg #[.int .i64 0, .string ⟨#[]⟩, .string ⟨#[]⟩, .int .i64 0, .int .i64 0, .int .i64 0, .string ⟨#[]⟩]), 7, 80) := by kernel_rfl
theorem ovs_one (l : List Ov) : ∀ u ∈ l.flatMap cO, u.oneCell' = true := fun u hu => by
  obtain ⟨f, _, hf⟩ := List.mem_flatMap.1 hu
  simp [cO] at hf
  rcases hf with rfl | rfl | rfl | rfl | rfl | rfl | rfl <;> rfl
theorem run_append_ovs (w : World) (ty : TypeId) (base : Nat) (v : Value) (xs ys : List Ov) (hown : w.ownsRow base 80 7 v xs.length (xs.flatMap cO)) (A : Option Addr) (m c : Nat) (h : Reads 7 cO w (.slice A m c) ys) (hl : xs.length + ys.length ≤ 1000000) (hbase : base ≤ w.heap.size) :
    ∃ A' c' w', (Builtin.append_ #[72, 72] ty #[v, .slice A m c]).run Tryd.prog w = .ok (.slice A' (xs ++ ys).length c') w' ∧ w'.ownsRow base 80 7 (.slice A' (xs ++ ys).length c') (xs ++ ys).length ((xs ++ ys).flatMap cO) ∧ Below base w w' ∧ w.grownBy w' v.ownBlock := by
  obtain ⟨i0, hi, hz0, hz1, hz2⟩ := info_parts ovInfo
  obtain ⟨hm, hmc, hcm⟩ := h.len
  cases A with
  | none =>
    obtain ⟨A', c', hv, h1, h2, h3, h4⟩ := h
    injection hv with e1 e2 e3
    subst e1; subst e3
    have hc := h3 rfl
    subst hc
    have hm0 : m = 0 := by omega
    subst hm0
    have : ys = [] := List.eq_nil_of_length_eq_zero (by omega)
    subst this
    obtain ⟨A', c', rfl⟩ := own_form hown
    have hr := run_append_owned_none (P := Tryd.prog) (w := w) base 72 ty 80 i0 7 Tryd.underlying72 hi _ _ _ hown
    rw [List.append_nil]
    exact ⟨A', c', w, hr, hown, Below.refl _ _, World.grownBy.refl _ _⟩
  | some ad =>
    obtain ⟨v', w', hr, ho, hg, _⟩ := run_append_own (P := Tryd.prog) w base 72 ty 80 i0 (.agg #[.int .i64 0, .string ⟨#[]⟩, .string ⟨#[]⟩, .int .i64 0, .int .i64 0, .int .i64 0, .string ⟨#[]⟩]) 7 80 Tryd.underlying72 hi hz0 hz1 hz2 rfl (by decide) v xs.length (xs.flatMap cO) hown ad m c (ys.flatMap cO) (by rw [flat_len cO_len, hm]) (reads_flat cO_len (by decide) h) (ovs_one ys) (by unfold maxLen; omega) (by omega) hbase
    have ho2 : w'.ownsRow base 80 7 v' (xs ++ ys).length ((xs ++ ys).flatMap cO) := by rw [List.length_append, List.flatMap_append, ← hm]; exact ho
    obtain ⟨A', c', rfl⟩ := own_form ho2
    exact ⟨A', c', w', hr, ho2, (Below.refl base w).grown hg hbase fun k hk => (hown.lt k hk).1, hg⟩
theorem wp_append_ovs (w : World) {o : Oper} {a : Act} {K : Act → World → Prop} {Q : Exit → Act → World → Prop} (s x : Operand)
    (ho : o.op = .call { callee := .builtin .append, args := #[s, x], argTypes := #[72, 72] })
    (base : Nat) (v : Value) (xs ys : List Ov) (hs : a.eval s = v) (hown : w.ownsRow base 80 7 v xs.length (xs.flatMap cO)) (A : Option Addr) (m c : Nat) (hx : a.eval x = .slice A m c) (h : Reads 7 cO w (.slice A m c) ys) (hl : xs.length + ys.length ≤ 1000000) (hbase : base ≤ w.heap.size)
    (hk : ∀ A' c' w', w'.ownsRow base 80 7 (.slice A' (xs ++ ys).length c') (xs ++ ys).length ((xs ++ ys).flatMap cO) → Below base w w' → w.grownBy w' v.ownBlock → K (a.put o.dst (.slice A' (xs ++ ys).length c')) w') : o.wp Tryd.prog a w K Q := by
  obtain ⟨A', c', w', hr, h2, h3, h4⟩ := run_append_ovs w o.type base v xs ys hown A m c h hl hbase
  unfold Oper.wp execOp
  simp only [ho, resolve, invoke, builtin, Sem.run_bind, Sem.run_pure, Result.andThen_ok, List.map_toArray, List.map_cons, List.map_nil, hs, hx, hr]
  exact hk A' c' w' h2 h3 h4
theorem wpList_append_ovs (w : World) {ops : Array Oper} {rest : List Oper} {o : Oper} {a : Act} {Q : Exit → Act → World → Prop} (hgd : o.guard = none) (s x : Operand)
    (ho : o.op = .call { callee := .builtin .append, args := #[s, x], argTypes := #[72, 72] })
    (base : Nat) (v : Value) (xs ys : List Ov) (hs : a.eval s = v) (hown : w.ownsRow base 80 7 v xs.length (xs.flatMap cO)) (A : Option Addr) (m c : Nat) (hx : a.eval x = .slice A m c) (h : Reads 7 cO w (.slice A m c) ys) (hl : xs.length + ys.length ≤ 1000000) (hbase : base ≤ w.heap.size)
    (hk : ∀ A' c' w', w'.ownsRow base 80 7 (.slice A' (xs ++ ys).length c') (xs ++ ys).length ((xs ++ ys).flatMap cO) → Below base w w' → w.grownBy w' v.ownBlock → wpList Tryd.prog ops Q rest (a.put o.dst (.slice A' (xs ++ ys).length c')) w') : wpList Tryd.prog ops Q (o :: rest) a w :=
  wpList_plain hgd fun _ hK => wp_append_ovs w s x ho base v xs ys hs hown A m c hx h hl hbase fun A' c' w' h2 h3 h4 => hK _ _ (hk A' c' w' h2 h3 h4)
theorem step_append_ovs (w : World) {ops : Array Oper} {o : Oper} {a : Act} {K : Act → World → Prop} {Q : Exit → Act → World → Prop} {E : Prop} (hgd : o.guard = none) (s x : Operand)
    (ho : o.op = .call { callee := .builtin .append, args := #[s, x], argTypes := #[72, 72] })
    (base : Nat) (v : Value) (xs ys : List Ov) (hs : a.eval s = v) (hown : w.ownsRow base 80 7 v xs.length (xs.flatMap cO)) (A : Option Addr) (m c : Nat) (hx : a.eval x = .slice A m c) (h : Reads 7 cO w (.slice A m c) ys) (hl : xs.length + ys.length ≤ 1000000) (hbase : base ≤ w.heap.size) (n : Nat) (hn : n = (xs ++ ys).length)
    (hk : ∀ A' c' w', w'.ownsRow base 80 7 (.slice A' n c') (xs ++ ys).length ((xs ++ ys).flatMap cO) → Below base w w' → w.grownBy w' v.ownBlock → K (a.put o.dst (.slice A' n c')) w') :
    if Region.wanted o (yielded ops a.tmps) = true then Oper.wp Tryd.prog o a w K Q else E := by
  have hw : Region.wanted o (yielded ops a.tmps) = true := by simp [Region.wanted, hgd]
  subst hn
  rw [if_pos hw]
  exact wp_append_ovs w s x ho base v xs ys hs hown A m c hx h hl hbase hk
theorem reads_one_ovs {w : World} {g : Nat} (x : Ov) (z : Blk w g 80 (aO x)) : Reads 7 cO w (.slice (some ⟨g, 0, none⟩) 1 1) [x] := by
  refine ⟨some ⟨g, 0, none⟩, 1, rfl, Nat.le_refl _, by decide, by simp, fun ad hA i y hy j u hu => ?_⟩
  obtain rfl := Option.some.inj hA
  have hi : i = 0 := by
    have := (List.getElem?_eq_some_iff.1 hy).1
    simp at this
    exact this
  subst hi
  obtain rfl : x = y := by simpa using hy
  have hc : w.cell? ⟨g, j, none⟩ = (aO x)[j]? := z.cell j
  have he : (aO x)[j]? = (cO x)[j]? := by simp [cO, aO]
  cases j with
  | zero => unfold adr; rw [add_zero_addr]; exact hc.trans (he.trans hu)
  | succ j => unfold adr; rw [add_zero_addr]; exact (show w.cell? ⟨g, 0 * 7 + (j + 1), none⟩ = _ by rw [Nat.zero_mul, Nat.zero_add]; exact hc.trans (he.trans hu))
theorem own_made_ovs (w : World) : (w.alloc (.cells #[] 80)).ownsRow w.heap.size 80 7 (.slice (some ⟨w.heap.size, 0, none⟩) 0 0) ([] : List Ov).length (([] : List Ov).flatMap cO) :=
  World.ownsRow_made w #[] 0 (Nat.le_refl _) (Nat.zero_le _) rfl
set_option maxRecDepth 100000 in
set_option maxHeartbeats 4000000 in
theorem clone38_any (w : World) (v : Value) (l : List Bool) (h : Reads 1 cB w v l) (hl : l.length ≤ 1000000) :
    Calls Tryd.prog 38 #[v] w fun e w' => ∃ v', e = .returned v' ∧ w'.ownsRow w.heap.size 4 1 v' l.length (l.flatMap cB) ∧ Below w.heap.size w w' := by
  obtain ⟨A, c, rfl⟩ := h.form
  cases A with
  | none =>
    obtain ⟨A', c', hv, h1, h2, h3, h4⟩ := h
    injection hv with e1 e2 e3
    subst e1; subst e3
    have hc := h3 rfl
    subst hc
    have : l = [] := List.eq_nil_of_length_eq_zero (by omega)
    subst this
    clear h1 h2 h3 h4 e2
    have q : ∀ (w : World) (a : Option Addr) (n c n' c' : Nat), (binOp .eql 29 (.slice a n c) (.slice none n' c')).run Tryd.prog w = .ok (.bool a.isNone) w := fun w a n c n' c' => Lib.run_eql_slice_nil w _ _ a n c n' c' Tryd.underlying29
    go_enter Tryd.func38, Tryd.ntmps38
    go_wp2
    go_ret
    exact ⟨_, rfl, World.ownsRow_nil w _ 4 1, Below.refl _ _⟩
  | some ad =>
    have R1 := h.alloc (.cells #[] 4)
    have Oa := own_made_bls w
    have B1 := Lib.hid ((Below.refl w.heap.size w).alloc (Nat.le_refl _) (.cells #[] 4))
    have hs : w.heap.size ≤ (w.alloc (.cells #[] 4)).heap.size := by simp
    have q : ∀ (w : World) (a : Option Addr) (n c n' c' : Nat), (binOp .eql 29 (.slice a n c) (.slice none n' c')).run Tryd.prog w = .ok (.bool a.isNone) w := fun w a n c n' c' => Lib.run_eql_slice_nil w _ _ a n c n' c' Tryd.underlying29
    have hl2 : ([] : List Bool).length + l.length ≤ 1000000 := by simpa using hl
    clear h
    go_enter Tryd.func38, Tryd.ntmps38
    go_wp2_with (refine wpList_append_bls _ rfl _ _ rfl w.heap.size (.slice (some ⟨w.heap.size, 0, none⟩) 0 0) [] l rfl Oa (some ad) l.length c rfl R1 hl2 hs ?_; intro A8 c8 w8 o8 b8 g8; have O8 := Lib.hid o8; have B8 := Lib.hid (B1.out.trans b8); clear o8 b8 g8 Oa R1)
    go_ret
    exact ⟨_, rfl, O8.out, B8.out⟩
set_option maxRecDepth 100000 in
set_option maxHeartbeats 4000000 in
theorem clone37_any (w : World) (v : Value) (l : List Ov) (h : Reads 7 cO w v l) (hl : l.length ≤ 1000000) :
    Calls Tryd.prog 37 #[v] w fun e w' => ∃ v', e = .returned v' ∧ w'.ownsRow w.heap.size 80 7 v' l.length (l.flatMap cO) ∧ Below w.heap.size w w' := by
  obtain ⟨A, c, rfl⟩ := h.form
  cases A with
  | none =>
    obtain ⟨A', c', hv, h1, h2, h3, h4⟩ := h
    injection hv with e1 e2 e3
    subst e1; subst e3
    have hc := h3 rfl
    subst hc
    have : l = [] := List.eq_nil_of_length_eq_zero (by omega)
    subst this
    clear h1 h2 h3 h4 e2
    have q : ∀ (w : World) (a : Option Addr) (n c n' c' : Nat), (binOp .eql 72 (.slice a n c) (.slice none n' c')).run Tryd.prog w = .ok (.bool a.isNone) w := fun w a n c n' c' => Lib.run_eql_slice_nil w _ _ a n c n' c' Tryd.underlying72
    go_enter Tryd.func37, Tryd.ntmps37
    go_wp2
    go_ret
    exact ⟨_, rfl, World.ownsRow_nil w _ 80 7, Below.refl _ _⟩
  | some ad =>
    have R1 := h.alloc (.cells #[] 80)
    have Oa := own_made_ovs w
    have B1 := Lib.hid ((Below.refl w.heap.size w).alloc (Nat.le_refl _) (.cells #[] 80))
    have hs : w.heap.size ≤ (w.alloc (.cells #[] 80)).heap.size := by simp
    have q : ∀ (w : World) (a : Option Addr) (n c n' c' : Nat), (binOp .eql 72 (.slice a n c) (.slice none n' c')).run Tryd.prog w = .ok (.bool a.isNone) w := fun w a n c n' c' => Lib.run_eql_slice_nil w _ _ a n c n' c' Tryd.underlying72
    have hl2 : ([] : List Ov).length + l.length ≤ 1000000 := by simpa using hl
    clear h
    go_enter Tryd.func37, Tryd.ntmps37
    go_wp2_with (refine wpList_append_ovs _ rfl _ _ rfl w.heap.size (.slice (some ⟨w.heap.size, 0, none⟩) 0 0) [] l rfl Oa (some ad) l.length c rfl R1 hl2 hs ?_; intro A8 c8 w8 o8 b8 g8; have O8 := Lib.hid o8; have B8 := Lib.hid (B1.out.trans b8); clear o8 b8 g8 Oa R1)
    go_ret
    exact ⟨_, rfl, O8.out, B8.out⟩
end Go.Proofs.YtcnmlgmlijgmhaaDoor

namespace Go.Proofs.YtcnmlgmlijgmhaaDoor
open Go Go.RowKit Go.Shelf Go.Maps

theorem DiskIs.setQ {w : World} {B N : Nat} {L : Loc} {D : DK} (h : DiskIs w B L N D) (a : Int) : DiskIs (w.setCell ⟨L.F, 3, none⟩ (.int .i64 a)) B L N { D with q := a } :=
  ⟨⟨by simpa using h.fs.x.set_ 3 (.int .i64 a), h.fs.f.setCell (Ne.symm (blk_tree_ne h.fs.x h.fs.f)) _, h.fs.s.setCell (Ne.symm (blk_tree_ne h.fs.x h.fs.s)) _, h.fs.ne⟩, h.ps.kept (grown_cellF w L.F 3 _) (Or.inr (own_blk_ne h.ps h.fs.x (by decide))), h.ks.kept (grown_cellF w L.F 3 _) (Or.inr (own_blk_ne h.ks h.fs.x (by decide))), h.lo, h.sT, h.sS, h.so⟩
set_option maxRecDepth 100000 in
set_option maxHeartbeats 4000000 in
theorem quota_any {w : World} {B N : Nat} {L : Loc} {D : DK} (h : DiskIs w B L N D) (n : Int) :
    Calls Tryd.prog 53 #[.pointer (some ⟨L.F, 0, none⟩), .int .i64 n] w fun e w' => e = .returned (.tuple #[]) ∧ DiskIs w' B L N { D with q := n } ∧ Next w L w' L := by
  have c3 := h.fs.x.cell 3
  have f3 := h.fs.x.frozen 3
  have H := Lib.hid (h.setQ n)
  clear h
  go_enter Tryd.func53, Tryd.ntmps53
  go_wp2
  refine ⟨rfl, _, (by first | rfl | kernel_rfl), rfl, H.out, Next.cell w L 3 _⟩
set_option maxRecDepth 100000 in
set_option maxHeartbeats 4000000 in
theorem arm_any {w : World} {B N : Nat} {L : Loc} {D : DK} (h : DiskIs w B L N D) (m : Int) (v : Value) (ks : List Bool) (hv : ∀ w', Turns w w' L.foot → Reads 1 cB w' v ks) (hl : ks.length ≤ 1000000) (hB : B ≤ w.heap.size) :
    Calls Tryd.prog 25 #[.pointer (some ⟨L.F, 0, none⟩), .int .i64 m, v] w fun e w' => ∃ L', e = .returned (.tuple #[]) ∧ DiskIs w' B L' N { D with armed := max m 1, ks := ks } ∧ Next w L w' L' := by
  have c8 := h.fs.x.cell 8
  have f8 := h.fs.x.frozen 8
  have h1 := h.setArmed (max m 1)
  have T1 := Next.cell w L 8 (.int .i64 (max m 1))
  have CL := Lib.hid (clone38_any (w.setCell ⟨L.F, 8, none⟩ (.int .i64 (max m 1))) v ks (hv _ T1.t) hl)
  have H1 := Lib.hid h1
  have HB := Lib.hid hB
  have N1 := Lib.hid T1
  clear h h1 T1 hv hB
  go_enter Tryd.func25, Tryd.ntmps25
  go_wp2_with (go_at_call 38; refine CL.out.mono ?_; rintro e w2 ⟨v', rfl, o2, b2⟩; obtain ⟨A2, c2, rfl⟩ := own_form o2; have H2 := Lib.hid (H1.out.below b2); have c9 := H2.out.fs.x.cell 9; have f9 := H2.out.fs.x.frozen 9; have O2 := Lib.hid (ownsRow_base_a o2 (show B ≤ _ from Nat.le_trans HB.out (by simp))); have N2 := Lib.hid (N1.out.trans (Next.of_below L b2)); clear o2 b2)
  have G : w2.grownBy (w2.setCell ⟨L.F, 9, none⟩ (.slice A2 ks.length c2)) (some L.F) := grown_cellF w2 L.F 9 _
  refine ⟨rfl, _, (by first | rfl | kernel_rfl), ⟨L.F, L.bf, L.bs, L.vp, .slice A2 ks.length c2⟩, rfl, ⟨H2.out.fs.setKeep _, H2.out.ps.kept G (Or.inr (own_blk_ne H2.out.ps H2.out.fs.x (by decide))), O2.out.kept G (Or.inr (own_blk_ne O2.out H2.out.fs.x (by decide))), H2.out.lo, H2.out.sT, H2.out.sS, H2.out.so⟩, N2.out.trans ⟨rfl, fun k hk => .inl hk, Turns.of_grown G (.inl rfl)⟩⟩
def wrE (D : DK) (p : ByteArray) (mode : Int) (s : ByteArray) : Int := if refF D p mode s.size = 0 then stepE D else refF D p mode s.size
def wrO (D : DK) (p : ByteArray) (mode : Int) (s : ByteArray) : Ov := (0, e0, p, mode, D.now, inoOf D.T p D.ino, s)
def wrD (D : DK) (p : ByteArray) (mode : Int) (s : ByteArray) : DK := if refF D p mode s.size = 0 then stepD D (wrO D p mode s) (inoNew D.T p D.ino) else D
set_option maxRecDepth 100000 in
set_option maxHeartbeats 4000000 in
theorem write_any {w : World} {B N : Nat} {L : Loc} {D : DK} (h : DiskIs w B L N D) (p : ByteArray) (mode : Int) (v : Value) (s : ByteArray) (hv : BytesIn w L.foot v s) (hs : s.size ≤ 1000000000) (hu : usedV D.T ≤ 1000000000)
    (ha : 0 ≤ D.armed ∧ D.armed ≤ 9223372036854775807) (hpp : p.size ≤ 1000) (hN : N ≤ 1000000) (hp : D.ps.length ≤ 100000) (hB : B ≤ w.heap.size) (h0 : 0 ≤ D.ino) (h1 : D.ino ≤ 1000000) (o0 : 0 ≤ D.ops) (o1 : D.ops ≤ 1000000) :
    Calls Tryd.prog 16 #[.pointer (some ⟨L.F, 0, none⟩), .string p, .int .i64 mode, v] w fun e w' => ∃ L', e = .returned (.int .i64 (wrE D p mode s)) ∧ DiskIs w' B L' (N + D.ps.length + 1) (wrD D p mode s) ∧ Next w L w' L' := by
  have RF := Lib.hid (refusesFile_any h p mode v s hv hpp hu hs)
  have ST := Lib.hid (fun W (hb : Below w.heap.size w W) => (show Calls Tryd.prog 56 #[.pointer (some ⟨L.F, 0, none⟩), .agg #[.int .i64 0, .string ⟨#[]⟩, .string p, .int .i64 0, .int .i64 0, .int .i64 0, .string ⟨#[]⟩], .int .i64 mode, v] W _ from step_w (h.below hb) ⟨#[]⟩ p 0 0 0 ⟨#[]⟩ mode v s (hv.turns (Turns.of_below hb)) ha (by decide) hpp hN hp (Nat.le_trans hB hb.size) h0 h1 o0 o1))
  have HD := Lib.hid h
  unfold wrE wrD
  obtain ⟨r, hr⟩ : ∃ r, r = refF D p mode s.size := ⟨_, rfl⟩
  rw [← hr] at RF
  rw [← hr]
  clear h hv hs ha hpp hN hp hB h0 h1 o0 o1 hu hr
  by_cases hr0 : r = 0
  · subst hr0
    rw [if_pos rfl, if_pos rfl]
    go_enter Tryd.func16, Tryd.ntmps16
    go_wp2_with fail
    refine RF.out.mono ?_
    rintro e w1 ⟨rfl, b1⟩
    go_wp2_with fail
    refine (ST.out w1 b1).mono ?_
    rintro e w2 ⟨L', rfl, hd, hn⟩
    have HD2 := Lib.hid hd
    have HN := Lib.hid ((Next.of_below L b1).trans hn)
    clear hd hn b1 RF ST
    go_wp2_with fail
    go_ret
    exact ⟨L', rfl, HD2.out, HN.out⟩
  · rw [if_neg hr0, if_neg hr0]
    have hv0 : (r != 0) = true := by simpa using hr0
    go_enter Tryd.func16, Tryd.ntmps16
    go_wp2_with fail
    refine RF.out.mono ?_
    rintro e w1 ⟨rfl, b1⟩
    have B1 := Lib.hid b1
    clear b1 RF ST
    go_wp2_with fail
    go_ret
    exact ⟨L, rfl, (HD.out.below B1.out).mono (by omega), Next.of_below L B1.out⟩
end Go.Proofs.YtcnmlgmlijgmhaaDoor

namespace Go.Proofs.YtcnmlgmlijgmhaaDoor
open Go Go.RowKit Go.Shelf Go.Maps

theorem DiskIs.doT {w w' : World} {B N : Nat} {L : Loc} {D : DK} (h : DiskIs w B L N D) {T' : Tr} (ht : TreeIs w' L.bf (N + 1) T') (hg : w.grownBy w' (some L.bf)) (hs : Short T') : DiskIs w' B L (N + 1) { D with T := T' } :=
  ⟨⟨h.fs.x.grown hg (fun e => blk_tree_ne h.fs.x h.fs.f (Option.some.inj e)), ht, (h.fs.s.kept hg (fun e => h.fs.ne (Option.some.inj e).symm)).mono (Nat.le_succ _), h.fs.ne⟩, h.ps.kept hg (Or.inr (own_tree_ne h.ps h.fs.f)), h.ks.kept hg (Or.inr (own_tree_ne h.ks h.fs.f)), h.lo, hs, h.sS, h.so⟩
theorem DiskIs.newIno {w w' : World} {B N : Nat} {L : Loc} {D : DK} (h : DiskIs w B L N D) {i : Int} (hf : FsIs w' L.F L.bf L.bs N D.T D.S L.vp D.q D.now i D.ops D.off D.armed L.vk) (hg : w.grownBy w' (some L.F)) : DiskIs w' B L N { D with ino := i } :=
  ⟨hf, h.ps.kept hg (Or.inr (own_blk_ne h.ps h.fs.x (by decide))), h.ks.kept hg (Or.inr (own_blk_ne h.ks h.fs.x (by decide))), h.lo, h.sT, h.sS, h.so⟩
theorem Next.of_F {w w' : World} {L : Loc} (hg : w.grownBy w' (some L.F)) : Next w L w' L := ⟨rfl, fun _ h => .inl h, Turns.of_grown hg (.inl rfl)⟩
theorem Next.of_f {w w' : World} {L : Loc} (hg : w.grownBy w' (some L.bf)) : Next w L w' L := ⟨rfl, fun _ h => .inl h, Turns.of_grown hg (.inr (.inl rfl))⟩
def edT (D : DK) (p : ByteArray) (mode : Int) (s : ByteArray) : Tr := putT D.T p ⟨mode, D.now, inoOf D.T p D.ino, s⟩
def edD (D : DK) (p : ByteArray) (mode : Int) (s : ByteArray) : DK := if refF D p mode s.size = 0 then { D with T := edT D p mode s, S := edT D p mode s, ps := [], ino := inoNew D.T p D.ino } else D
set_option maxRecDepth 100000 in
set_option maxHeartbeats 4000000 in
theorem edit_d {w : World} {B N : Nat} {L : Loc} {D : DK} (h : DiskIs w B L N D) (p : ByteArray) (mode : Int) (v : Value) (s : ByteArray) (hv : BytesIn w L.foot v s) (hs : s.size ≤ 1000000000) (hu : usedV D.T ≤ 1000000000)
    (hpp : p.size ≤ 1000) (hN : N ≤ 1000000) (hB : B ≤ w.heap.size) (h0 : 0 ≤ D.ino) (h1 : D.ino ≤ 1000000) :
    Calls Tryd.prog 32 #[.pointer (some ⟨L.F, 0, none⟩), .string p, .int .i64 mode, v] w fun e w' => ∃ L', e = .returned (.int .i64 (refF D p mode s.size)) ∧ DiskIs w' B L' (N + 1) (edD D p mode s) ∧ Next w L w' L' := by
  have RF := Lib.hid (refusesFile_any h p mode v s hv hpp hu hs)
  have HD := Lib.hid h
  have HV := Lib.hid hv
  have HN := Lib.hid (And.intro hN (And.intro hpp hB))
  have HI := Lib.hid (And.intro h0 h1)
  unfold edD
  obtain ⟨r, hr⟩ : ∃ r, r = refF D p mode s.size := ⟨_, rfl⟩
  rw [← hr] at RF
  rw [← hr]
  clear h hv hs hpp hN hB h0 h1 hu hr
  by_cases hr0 : r = 0
  · subst hr0
    rw [if_pos rfl]
    go_enter Tryd.func32, Tryd.ntmps32
    go_wp2_with fail
    refine RF.out.mono ?_
    rintro e w1 ⟨rfl, b1⟩
    have B1 := Lib.hid b1
    have D1 := Lib.hid (HD.out.below b1)
    clear b1 RF
    go_upto_region 4 with fail
    have D1d := Lib.hid (D1.out.below (Below.refl w1.heap.size w1).drew)
    have z0 : w1.drew.cell? ⟨L.F, 0, none⟩ = some (.map (some L.bf)) := D1d.out.fs.x.cell 0
    have FR := Lib.hid (show Calls Tryd.prog 64 #[.pointer (some ⟨L.F, 0, none⟩), .string p, .int .i64 mode, v] w1.drew fun e w' => e = .returned (.agg #[.int .i64 mode, .int .i64 D.now, .int .i64 (inoOf D.T p D.ino), .string s]) ∧ FsIs w' L.F L.bf L.bs N D.T D.S L.vp D.q D.now (inoNew D.T p D.ino) D.ops D.off D.armed L.vk ∧ w1.drew.grownBy w' (some L.F) from
      fresh_any D1d.out.fs p mode v s (by have := HN.out.2.1; unfold maxLen; omega) (HV.out.of (Turns.of_below B1.out.drew) (.inl rfl)) HI.out.1 (by have := HI.out.2; omega))
    have DW := Lib.hid (fun (w' : World) (hf : TreeIs w' L.bf N D.T) => (show Calls Tryd.prog 40 #[.map (some L.bf), .agg #[.int .i64 0, .string ⟨#[]⟩, .string p, .int .i64 mode, .int .i64 D.now, .int .i64 (inoOf D.T p D.ino), .string s]] w' fun e w'' => e = .returned (.tuple #[]) ∧ TreeIs w'' L.bf (N + 1) (edT D p mode s) ∧ w'.grownBy w'' (some L.bf) from
      do_write w' L.bf N D.T ⟨#[]⟩ p ⟨mode, D.now, inoOf D.T p D.ino, s⟩ hf (by have := HN.out.1; unfold maxLen; omega) (by have := HN.out.2.1; unfold maxLen; omega)))
    go_region_held3 (fun w' => w'.cell? ⟨L.F, 0, none⟩ = some (.map (some L.bf))) (first | exact z0 | exact z6 | exact z7) (first
      | (go_at_call 40; (with_reducible refine (DW.out w6 FS6.f).mono ?_); rintro e w7 ⟨rfl, T7, G7⟩; have KF7 := FS6.x.grown G7 (fun e => blk_tree_ne FS6.x FS6.f (Option.some.inj e)); have z7 : w7.cell? ⟨L.F, 0, none⟩ = some (.map (some L.bf)) := KF7.cell 0)
      | (go_at_call 64; (with_reducible refine FR.out.mono ?_); rintro e w6 ⟨rfl, FS6, G6⟩; have z6 : w6.cell? ⟨L.F, 0, none⟩ = some (.map (some L.bf)) := FS6.x.cell 0))
    all_goals
      have D7 := Lib.hid ((D1d.out.newIno FS6 G6).doT T7 G7 (D1.out.sT.put (by have := HN.out.2.1; omega) _))
      have HK := Lib.hid ((Next.of_below L B1.out.drew).trans ((Next.of_F G6).trans (Next.of_f G7)))
      have ST := Lib.hid (settle_d D7.out (Nat.le_trans HN.out.2.2 HK.out.t.size))
      clear FS6 G6 z6 T7 G7 KF7 z7 z0
      go_wp2_with fail
      refine ST.out.mono ?_
      rintro e w8 ⟨L', rfl, D8, N8⟩
      have H8 := Lib.hid D8
      have HK8 := Lib.hid (HK.out.trans N8)
      clear D8 N8 ST
      go_wp2_with fail
      go_ret
      exact ⟨L', rfl, H8.out, HK8.out⟩
  · rw [if_neg hr0]
    have hv0 : (r != 0) = true := by simpa using hr0
    go_enter Tryd.func32, Tryd.ntmps32
    go_wp2_with fail
    refine RF.out.mono ?_
    rintro e w1 ⟨rfl, b1⟩
    have B1 := Lib.hid b1
    clear b1 RF
    go_wp2_with fail
    go_ret
    exact ⟨L, rfl, (HD.out.below B1.out).mono (by omega), Next.of_below L B1.out⟩
def ulE (D : DK) : Int := if D.off then 13 else 0
def ulD (D : DK) (p : ByteArray) : DK := if D.off then D else if (getT D.T p).isSome then { D with T := delT D.T p, S := delT D.T p, ps := [] } else D
set_option maxRecDepth 100000 in
set_option maxHeartbeats 4000000 in
theorem unlink_d {w : World} {B N : Nat} {L : Loc} {D : DK} (h : DiskIs w B L N D) (p : ByteArray) (hpp : p.size ≤ 1000) (hB : B ≤ w.heap.size) :
    Calls Tryd.prog 51 #[.pointer (some ⟨L.F, 0, none⟩), .string p] w fun e w' => ∃ L', e = .returned (.int .i64 (ulE D)) ∧ DiskIs w' B L' (N + 1) (ulD D p) ∧ Next w L w' L' := by
  have HD := Lib.hid h
  have x7 := h.fs.x.cell 7
  have x0 := h.fs.x.cell 0
  unfold ulE ulD
  cases ho : D.off with
  | true =>
    rw [ho] at x7
    rw [if_pos rfl, if_pos rfl]
    clear h ho x0
    go_enter Tryd.func51, Tryd.ntmps51
    go_wp2
    go_ret
    exact ⟨L, rfl, HD.out.mono (by omega), Next.refl _ _⟩
  | false =>
    rw [ho] at x7
    rw [if_neg (by decide), if_neg (by decide)]
    have lk := h.fs.f.look_ok (p := p) (by unfold maxLen; omega)
    obtain ⟨f, hf⟩ : ∃ f, f = (getT D.T p).getD noF := ⟨_, rfl⟩
    rw [← hf] at lk
    unfold fV at lk
    cases hg : (getT D.T p).isSome with
    | false =>
      rw [hg] at lk
      rw [if_neg (by decide)]
      have B1 := Lib.hid (fun cs => (Below.refl w.heap.size w).alloc (Nat.le_refl _) (.cells cs 77))
      clear h ho hf hg
      go_enter Tryd.func51, Tryd.ntmps51
      go_wp2
      go_ret
      exact ⟨L, rfl, (HD.out.below (B1.out _)).mono (by omega), Next.of_below L (B1.out _)⟩
    | true =>
      rw [hg] at lk
      rw [if_pos rfl]
      have HF := Lib.hid (fun cs => (Below.refl w.heap.size w).alloc (Nat.le_refl _) (.cells cs 77))
      have DR := Lib.hid (fun W (hb : Below w.heap.size w W) => (show Calls Tryd.prog 40 #[.map (some L.bf), .agg #[.int .i64 2, .string p, .string ⟨#[]⟩, .int .i64 0, .int .i64 0, .int .i64 0, .string ⟨#[]⟩]] W _ from do_2 W L.bf N D.T p ⟨#[]⟩ 0 0 0 ⟨#[]⟩ (HD.out.below hb).fs.f (by unfold maxLen; omega)))
      have HB := Lib.hid hB
      have HO := Lib.hid ho
      obtain ⟨cs, hcs⟩ : ∃ cs : Array Value, cs = #[.int .i64 f.mode, .int .i64 f.time, .int .i64 f.inode, .string f.data] := ⟨_, rfl⟩
      have D1 := Lib.hid (HD.out.below (HF.out cs))
      have xx := D1.out.fs.x.cell 0
      rw [hcs] at xx
      clear h ho hf hg hB
      go_enter Tryd.func51, Tryd.ntmps51
      go_wp2_with fail
      rw [← hcs]
      refine (DR.out _ (HF.out cs)).mono ?_
      rintro e w1 ⟨rfl, t1, g1⟩
      have D2 := Lib.hid (D1.out.doT t1 g1 (D1.out.sT.del p))
      have N2 := Lib.hid ((Next.of_below L (HF.out cs)).trans (Next.of_f g1))
      have ST := Lib.hid (settle_d D2.out (Nat.le_trans HB.out N2.out.t.size))
      clear t1 g1 hcs xx
      go_wp2_with fail
      refine ST.out.mono ?_
      rintro e w2 ⟨L', rfl, d3, n3⟩
      have D3 := Lib.hid d3
      have N3 := Lib.hid (N2.out.trans n3)
      clear d3 n3
      go_wp2_with fail
      go_ret
      have hh := D3.out
      rw [HO.out] at hh
      exact ⟨L', rfl, hh, N3.out⟩
end Go.Proofs.YtcnmlgmlijgmhaaDoor
