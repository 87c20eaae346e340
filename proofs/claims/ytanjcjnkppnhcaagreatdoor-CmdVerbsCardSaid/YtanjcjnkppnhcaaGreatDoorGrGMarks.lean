/-
  The reference's Marks, rising, Ancestors, Is.
-/
import Derived.Test.YtanjcjnkppnhcaaGreatDoorGrGEq
import Derived.Outline
namespace Go.Proofs.YtanjcjnkppnhcaaGreatDoor.G
open Go.RowKit

/-- What stands while the marks are carried down: those at m and above have handed theirs on. -/
structure RI (gs : List (List Int)) (cs : List Int) (m : Nat) (S : List Bool) : Prop where
  len : S.length = gs.length
  sound : ∀ i : Nat, S[i]? = some true → Anc gs cs ((i : Int) + 1)
  base : ∀ c ∈ cs, 1 ≤ c → c ≤ gs.length → S[c.toNat - 1]? = some true
  done : ∀ (y : Nat) (l : List Int), m ≤ y → S[y]? = some true → gs[y]? = some l → ∀ p ∈ l, S[p.toNat - 1]? = some true

theorem set_true {S : List Bool} {i j : Nat} (hi : i < S.length) : (S.set i true)[j]? = some true ↔ j = i ∨ S[j]? = some true := by
  rw [List.getElem?_set]
  by_cases e : i = j
  · subst e; rw [if_pos rfl, if_pos hi]; simp
  · rw [if_neg e]
    constructor
    · exact .inr
    · rintro (h | h)
      · exact absurd h.symm e
      · exact h

/-- One parent of m is marked. -/
theorem RI.mark {gs : List (List Int)} {cs : List Int} {m : Nat} {S : List Bool} {l : List Int} {p : Int} (ok : Ok gs) (h : RI gs cs (m + 1) S) (hl : gs[m]? = some l) (hm : S[m]? = some true) (hp : p ∈ l) : RI gs cs (m + 1) (S.set (p.toNat - 1) true) := by
  have hml := (List.getElem?_eq_some_iff.1 hl).1
  obtain ⟨p1, p2⟩ := ok m l hl p hp
  have hlt : p.toNat - 1 < S.length := by rw [h.len]; omega
  have hpar : par gs ((m : Int) + 1) = l := by
    unfold par
    rw [List.getD_eq_getElem?_getD, show ((m : Int) + 1).toNat - 1 = m by omega, hl]
    rfl
  refine ⟨by simp [h.len], fun i hi => ?_, fun c hc a b => (set_true hlt).2 (.inr (h.base c hc a b)), fun y k hy hS hk q hq => ?_⟩
  · rcases (set_true hlt).1 hi with e | hi
    · have := Anc.step (h.sound m hm) (p := p) (by rw [hpar]; exact hp) p1 (by omega)
      rwa [show (i : Int) + 1 = p by omega]
    · exact h.sound i hi
  · rcases (set_true hlt).1 hS with e | hS
    · omega
    · exact (set_true hlt).2 (.inr (h.done y k hy hS hk q hq))
theorem RI.keep {gs : List (List Int)} {m j : Nat} {S : List Bool} {l : List Int} {p : Int} (ok : Ok gs) (hlen : S.length = gs.length) (hl : gs[m]? = some l) (hm : S[m]? = some true) (hp : l[j]? = some p) (ht : ∀ q ∈ l.take j, S[q.toNat - 1]? = some true) :
    (S.set (p.toNat - 1) true)[m]? = some true ∧ ∀ q ∈ l.take (j + 1), (S.set (p.toNat - 1) true)[q.toNat - 1]? = some true := by
  have hml := (List.getElem?_eq_some_iff.1 hl).1
  obtain ⟨p1, p2⟩ := ok m l hl p (List.mem_of_getElem? hp)
  have hlt : p.toNat - 1 < S.length := by omega
  exact ⟨(set_true hlt).2 (.inr hm), take_all (fun q hq => (set_true hlt).2 (.inr (ht q hq))) hp ((set_true hlt).2 (.inl rfl))⟩
theorem RI.next {gs : List (List Int)} {cs : List Int} {m : Nat} {S : List Bool} {l : List Int} (h : RI gs cs (m + 1) S) (hl : gs[m]? = some l) (ht : S[m]? = some true → ∀ q ∈ l, S[q.toNat - 1]? = some true) : RI gs cs m S :=
  ⟨h.len, h.sound, h.base, fun y k hy hS hk => by
    by_cases e : y = m
    · subst e
      rw [hl] at hk
      obtain rfl := Option.some.inj hk
      exact ht hS
    · exact h.done y k (by omega) hS hk⟩
theorem RI.all {gs : List (List Int)} {cs : List Int} {S : List Bool} (h : RI gs cs 0 S) : S = mkL gs.length (fun i => anc gs cs (i + 1)) := by
  have full : ∀ x : Int, Anc gs cs x → S[x.toNat - 1]? = some true := by
    intro x hx
    induction hx with
    | base h1 h2 h3 => exact h.base _ h1 h2 h3
    | @step y p hy h1 h2 h3 ih =>
      have hv := hy.vld
      obtain ⟨l, hl⟩ : ∃ l, gs[y.toNat - 1]? = some l := ⟨_, List.getElem?_eq_getElem (by omega)⟩
      refine h.done _ l (Nat.zero_le _) ih hl p ?_
      unfold par at h1
      rw [List.getD_eq_getElem?_getD, hl] at h1
      exact h1
  refine mkL_of h.len fun i hi => ?_
  have hlt : i < S.length := by rw [h.len]; exact hi
  cases ha : anc gs cs (i + 1) with
  | true =>
    have := full _ (anc_iff.1 ha)
    rwa [show (((i + 1 : Nat) : Int)).toNat - 1 = i by omega] at this
  | false =>
    rw [List.getElem?_eq_getElem hlt]
    cases hb : S[i] with
    | false => rfl
    | true =>
      have := h.sound i (by rw [List.getElem?_eq_getElem hlt, hb])
      rw [anc_iff.2 (by rwa [show ((i + 1 : Nat) : Int) = (i : Int) + 1 by omega])] at ha
      cases ha

/-- While the first ones are marked. -/
structure RB (gs : List (List Int)) (cs : List Int) (k : Nat) (S : List Bool) : Prop where
  len : S.length = gs.length
  sound : ∀ i : Nat, S[i]? = some true → Anc gs cs ((i : Int) + 1)
  base : ∀ c ∈ cs.take k, 1 ≤ c → c ≤ gs.length → S[c.toNat - 1]? = some true
theorem RB.zero (gs : List (List Int)) (cs : List Int) : RB gs cs 0 (List.replicate gs.length false) :=
  ⟨by simp, fun i h => by rw [List.getElem?_replicate] at h; split at h <;> simp at h, by simp⟩
theorem RB.yes {gs : List (List Int)} {cs : List Int} {k : Nat} {S : List Bool} {c : Int} (h : RB gs cs k S) (hc : cs[k]? = some c) (h1 : 1 ≤ c) (h2 : c ≤ gs.length) : RB gs cs (k + 1) (S.set (c.toNat - 1) true) := by
  have hlt : c.toNat - 1 < S.length := by rw [h.len]; omega
  refine ⟨by simp [h.len], fun i hi => ?_, take_all (P := fun c => 1 ≤ c → c ≤ gs.length → (S.set _ true)[c.toNat - 1]? = some true) (fun d hd a b => (set_true hlt).2 (.inr (h.base d hd a b))) hc (fun _ _ => (set_true hlt).2 (.inl rfl))⟩
  rcases (set_true hlt).1 hi with e | hi
  · rw [show (i : Int) + 1 = c by omega]
    exact .base (List.mem_of_getElem? hc) h1 h2
  · exact h.sound i hi
theorem RB.no {gs : List (List Int)} {cs : List Int} {k : Nat} {S : List Bool} {c : Int} (h : RB gs cs k S) (hc : cs[k]? = some c) (hn : ¬(1 ≤ c ∧ c ≤ gs.length)) : RB gs cs (k + 1) S :=
  ⟨h.len, h.sound, take_all (P := fun c => 1 ≤ c → c ≤ gs.length → S[c.toNat - 1]? = some true) h.base hc fun a b => absurd ⟨a, b⟩ hn⟩
theorem RB.ri {gs : List (List Int)} {cs : List Int} {S : List Bool} (h : RB gs cs cs.length S) : RI gs cs gs.length S :=
  ⟨h.len, h.sound, by have := h.base; rwa [List.take_length] at this, fun y l hy _ hl => by have := (List.getElem?_eq_some_iff.1 hl).1; omega⟩

def Marked (w : World) (gs : List (List Int)) (cs : List Int) (e : Ending) (w' : World) : Prop :=
  ∃ bs, e = .returned (sl bs gs.length) ∧ w'.ownsRow w.heap.size 4 1 (sl bs gs.length) gs.length (bv (mkL gs.length fun i => anc gs cs (i + 1))) ∧ Below w.heap.size w w'

theorem bset {w : World} {base g n k : Nat} {S : List Bool} (h : w.ownsRow base 4 1 (sl g n) n (bv S)) (b : Bool) :
    (w.setCell ⟨g, k, none⟩ (.bool b)).ownsRow base 4 1 (sl g n) n (bv (S.set k b)) := by
  have h1 := (h.stored k (.bool b)).1
  have hs : (bv S).set k (.bool b) = bv (S.set k b) := by unfold bv; rw [← List.map_set]
  rw [hs] at h1
  exact h1
theorem bat {w : World} {base g n k : Nat} {S : List Bool} {b : Bool} (h : w.ownsRow base 4 1 (sl g n) n (bv S)) (hb : S[k]? = some b) : w.cell? ⟨g, k, none⟩ = some (.bool b) := by
  have hl := (List.getElem?_eq_some_iff.1 hb).1
  have := h.1
  simp at this
  rw [h.cellAt k (by omega)]
  simp [hb]

end Go.Proofs.YtanjcjnkppnhcaaGreatDoor.G
