/-
  The closed play 'known' answers true.
-/
import Derived.Test.YtanjcjnkppnhcaaDoorGrGCheck
import Derived.Deep.DeepCutAuto
import Derived.Deep.CutBlock
namespace Go.Proofs.YtanjcjnkppnhcaaDoor.G
open Go.RowKit

def YesB (w : World) (e : Ending) (w' : World) : Prop := e = .returned (.bool true) ∧ Below w.heap.size w w'

abbrev g0 : List (List Int) := [[], [1], [1], [2, 3]]
theorem ok0 : Ok g0 := by
  intro i l h p hp
  match i, h with
  | 0, h => simp at h; subst h; simp at hp
  | 1, h => simp at h; subst h; simp at hp; omega
  | 2, h => simp at h; subst h; simp at hp; omega
  | 3, h => simp at h; subst h; simp at hp; omega
  | i + 4, h => simp at h
theorem two0 : ∀ l ∈ g0, l.length ≤ 2 := by decide
theorem val1 : ancR g0 [2] = [1, 2] := by unfold ancR; rw [anc_reck ok0]; decide
theorem val2 : onlL g0 4 2 = [3, 4] := by unfold onlL onl; rw [anc_reck ok0, anc_reck ok0]; decide
theorem val3 : isB g0 1 4 = true := by unfold isB; rw [anc_reck ok0]; decide
theorem val4 : isB g0 4 1 = false := by unfold isB; rw [anc_reck ok0]; decide
theorem com0 (a b : Int) : com g0 a b = fun i => ancC g0 [a] i && ancC g0 [b] i := by funext i; unfold com; rw [anc_reck ok0, anc_reck ok0]
theorem val5 : basL g0 2 3 = [1] := by unfold basL bas pars; rw [com0, anc_reck ok0]; decide
theorem val6 : basL g0 4 3 = [3] := by unfold basL bas pars; rw [com0, anc_reck ok0]; decide
theorem val7 : base1 g0 2 3 = 1 := by unfold base1; rw [val5]; rfl
theorem val8 : chk g0 = 0 := by decide
theorem val9 : chk [[5]] = 1 := by decide

/-- Rows laid in a block of its own. -/
theorem Rows.lit {w : World} {g n : Nat} {t : TypeId} {us : Array Value} {gs : List (List Int)} (hb : Blk w g t us) (hn : us.size = n) (hl : gs.length = n) (hm : n ≤ maxLen)
    (h : ∀ (i : Nat) (l : List Int), gs[i]? = some l → ∃ u, us[i]? = some u ∧ Ints w u l) : Rows w (.slice (some ⟨g, 0, none⟩) n n) gs := by
  subst hn
  refine ⟨_, _, by rw [hl], by omega, hm, (fun h => by cases h), fun ad ha i l hi => ?_⟩
  obtain rfl := Option.some.inj ha
  obtain ⟨u, hu, hI⟩ := h i l hi
  refine ⟨u, ?_, hI⟩
  have hadd : (⟨g, 0, none⟩ : Addr).add i = ⟨g, i, none⟩ := by unfold Addr.add; split <;> simp_all
  rw [hadd, hb.cell, hu]

end Go.Proofs.YtanjcjnkppnhcaaDoor.G
