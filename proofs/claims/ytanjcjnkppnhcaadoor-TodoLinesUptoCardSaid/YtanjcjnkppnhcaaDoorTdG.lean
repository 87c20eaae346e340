/-
  todo: what is wrong with a step over commits.
-/
import Derived.Test.YtanjcjnkppnhcaaDoorTdF
import Derived.Test.YtanjcjnkppnhcaaDoorGrGBases
namespace Go.Proofs.YtanjcjnkppnhcaaDoor
open Go Go.RowKit

/-- What is wrong with a step, where one ahead has begun something or none has. -/
def wrongV (gs : List (List Int)) (b : Bool) (x : Fl) : Int :=
  if knownV x.1 = false then 5 else if x.2.1 < 1 ∨ (gs.length : Int) < x.2.1 ∨ 1 < (G.par gs x.2.1).length then 1
  else if ((x.1.toList == [115, 113, 117, 97, 115, 104]) = true ∨ (x.1.toList == [102, 105, 120, 117, 112]) = true) ∧ b = false then 7 else 0
theorem par_at {gs : List (List Int)} {i : Nat} {l : List Int} (h : gs[i]? = some l) : G.par gs ((i : Int) + 1) = l := by
  unfold G.par
  rw [show ((i : Int) + 1).toNat - 1 = i by omega, List.getD_eq_getElem?_getD, h]
  rfl
set_option maxRecDepth 100000 in
set_option maxHeartbeats 4000000 in
theorem wrong_any (w : World) (x : Fl) (vg : Value) (gs : List (List Int)) (b : Bool) (hG : G.Rows w vg gs) (hN : gs.length ≤ 100000) (hc : -1000000000000 ≤ x.2.1 ∧ x.2.1 ≤ 1000000000000) :
    Calls Tryd.prog 15 #[.agg #[.string x.1, .int .i64 x.2.1, .string x.2.2], vg, .bool b] w fun e w' => e = .returned (.int .i64 (wrongV gs b x)) ∧ Below w.heap.size w w' := by
  obtain ⟨v, c, t⟩ := x
  obtain ⟨A, cp, rfl⟩ := hG.form
  have KV := Lib.hid fun W => knownV_any v W
  have HB := Lib.hid ((Below.refl w.heap.size w).alloc (Nat.le_refl _) (.cells #[.string v, .int .i64 c, .string t] 37))
  have HG := Lib.hid (hG.below HB.out)
  have hn0 : (0 : Int) ≤ (gs.length : Int) := Int.natCast_nonneg _
  have hn1 : (gs.length : Int) ≤ 100000 := by omega
  have hc1 := hc.1
  have hc2 := hc.2
  dsimp only at hc1 hc2
  clear hG hc
  have G0 := Lib.hid (Blk.new w 37 #[.string v, .int .i64 c, .string t])
  obtain ⟨g, hg⟩ : ∃ g, g = w.heap.size := ⟨_, rfl⟩
  rw [← hg] at G0
  go_enter Tryd.func15, Tryd.ntmps15
  go_wp2_with fail
  rw [← hg]
  clear hg
  refine (KV.out _).mono ?_
  rintro e w2 ⟨rfl, rfl⟩
  generalize w.alloc (.cells #[.string v, .int .i64 c, .string t] 37) = w2 at *
  have y0 := G0.out.cell 0
  have y1 := G0.out.cell 1
  cases hk : knownV v with
  | false =>
    have HV := Lib.hid (show wrongV gs b (v, c, t) = 5 by unfold wrongV; rw [if_pos hk])
    clear hk
    go_wp2
    go_ret
    exact ⟨by rw [HV.out]; rfl, HB.out⟩
  | true =>
    have HK := Lib.hid (show ¬ knownV v = false by rw [hk]; simp)
    clear hk
    by_cases h1 : c < 1
    · have HV := Lib.hid (show wrongV gs b (v, c, t) = 1 by unfold wrongV; rw [if_neg HK.out, if_pos (.inl h1)])
      go_wp2
      go_ret
      exact ⟨by rw [HV.out]; rfl, HB.out⟩
    by_cases h2 : (gs.length : Int) < c
    · have HV := Lib.hid (show wrongV gs b (v, c, t) = 1 by unfold wrongV; rw [if_neg HK.out, if_pos (.inr (.inl h2))])
      go_wp2
      go_ret
      exact ⟨by rw [HV.out]; rfl, HB.out⟩
    obtain ⟨i, hi⟩ : ∃ i : Nat, c = (i : Int) + 1 := ⟨(c - 1).toNat, by omega⟩
    subst hi
    have hil : i < gs.length := by omega
    obtain ⟨l, hl⟩ : ∃ l, gs[i]? = some l := ⟨_, List.getElem?_eq_getElem hil⟩
    obtain ⟨ad, u, rfl, c0, hI⟩ := HG.out.cell hl
    obtain ⟨A2, c2, rfl⟩ := hI.form
    have hlen := hI.len
    have l0 : (0 : Int) ≤ (l.length : Int) := Int.natCast_nonneg _
    have hp := par_at hl
    have hw : IntKind.i64.wrap ((i : Int) + 1 - 1) = (i : Int) := by rw [IntKind.wrap_i64] <;> omega
    have hii : (i : Int) < (gs.length : Int) := by omega
    have i0 : (0 : Int) ≤ (i : Int) := Int.natCast_nonneg _
    clear hl hI hlen
    by_cases h3 : 1 < l.length
    · have HV := Lib.hid (show wrongV gs b (v, (i : Int) + 1, t) = 1 by unfold wrongV; rw [if_neg HK.out, if_pos (.inr (.inr (by show 1 < (G.par gs ((i : Int) + 1)).length; rw [hp]; exact h3)))])
      have h3i : (1 : Int) < (l.length : Int) := by omega
      clear hp h3
      go_wp2
      go_ret
      exact ⟨by rw [HV.out]; rfl, HB.out⟩
    have HQ := Lib.hid (show ¬ ((i : Int) + 1 < 1 ∨ (gs.length : Int) < (i : Int) + 1 ∨ 1 < (G.par gs ((i : Int) + 1)).length) by rw [hp]; omega)
    have e1 : decide ((1 : Int) < (l.length : Int)) = false := decide_eq_false (by omega)
    have e2 : decide (1 < l.length) = false := decide_eq_false h3
    have e3 : decide ((gs.length : Int) < (i : Int) + 1) = false := decide_eq_false h2
    have e4 : decide ((i : Int) + 1 < 1) = false := decide_eq_false h1
    have e5 : decide (gs.length < i + 1) = false := decide_eq_false (by omega)
    clear hp l0 h1 h2
    go_upto_region 5 with fail
    clear e1 e2 e3 e4 e5 h3 hw c0 hii i0 y1
    cases hs : (v.toList == [115, 113, 117, 97, 115, 104]) with
    | true =>
      cases b with
      | false =>
        have HV := Lib.hid (show wrongV gs false (v, (i : Int) + 1, t) = 7 by unfold wrongV; rw [if_neg HK.out, if_neg HQ.out, if_pos ⟨.inl hs, rfl⟩])
        go_wp2
        go_ret
        exact ⟨by rw [HV.out]; rfl, HB.out⟩
      | true =>
        have HV := Lib.hid (show wrongV gs true (v, (i : Int) + 1, t) = 0 by unfold wrongV; rw [if_neg HK.out, if_neg HQ.out, if_neg (by simp)])
        go_wp2
        go_ret
        exact ⟨by rw [HV.out]; rfl, HB.out⟩
    | false =>
      cases hf : (v.toList == [102, 105, 120, 117, 112]) with
      | true =>
        cases b with
        | false =>
          have HV := Lib.hid (show wrongV gs false (v, (i : Int) + 1, t) = 7 by unfold wrongV; rw [if_neg HK.out, if_neg HQ.out, if_pos ⟨.inr hf, rfl⟩])
          go_wp2
          go_ret
          exact ⟨by rw [HV.out]; rfl, HB.out⟩
        | true =>
          have HV := Lib.hid (show wrongV gs true (v, (i : Int) + 1, t) = 0 by unfold wrongV; rw [if_neg HK.out, if_neg HQ.out, if_neg (by simp)])
          go_wp2
          go_ret
          exact ⟨by rw [HV.out]; rfl, HB.out⟩
      | false =>
        have HV := Lib.hid (show wrongV gs b (v, (i : Int) + 1, t) = 0 by unfold wrongV; rw [if_neg HK.out, if_neg HQ.out, if_neg (fun e => e.1.elim (fun e => by rw [hs] at e; cases e) fun e => by rw [hf] at e; cases e)])
        go_wp2
        go_ret
        exact ⟨by rw [HV.out]; rfl, HB.out⟩
end Go.Proofs.YtanjcjnkppnhcaaDoor
