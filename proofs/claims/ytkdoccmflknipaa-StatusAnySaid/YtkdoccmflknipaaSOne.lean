/-
  One file, there or not, in three trees: its line, by plain lists.
-/
import Derived.Test.YtkdoccmflknipaaSRises
namespace Go.Proofs.Ytkdoccmflknipaa
open Go.RowKit

def pf : ByteArray := ⟨#[102]⟩
/-- No file, or the one. -/
def OneF (l : List Fl) : Prop := l = [] ∨ ∃ d, l = [(pf, 1, d)]
theorem OneF.len {l : List Fl} (h : OneF l) : l.length ≤ 1 := by rcases h with rfl | ⟨d, rfl⟩ <;> simp
theorem OneF.rise {l : List Fl} (h : OneF l) : RiseF l := by
  rcases h with rfl | ⟨d, rfl⟩
  · exact List.Pairwise.nil
  · exact List.pairwise_singleton _ _
theorem OneF.path {l : List Fl} (h : OneF l) : ∀ s, s ∈ l.map (·.1) → s = pf := by
  rcases h with rfl | ⟨d, rfl⟩
  · intro s hs; simp at hs
  · intro s hs; simpa using hs
theorem unl_letS {a b : List Fl} (ha : OneF a) (hb : OneF b) : unl (getF a pf) (getF b pf) = letS a b 65 := by
  rcases ha with rfl | ⟨d, rfl⟩ <;> rcases hb with rfl | ⟨d', rfl⟩
  · rfl
  · simp [getF, unl, letS]
  · simp [getF, unl, letS]
  · simp [getF, unl, letS]
theorem chg_letS {a b : List Fl} (ha : OneF a) (hb : OneF b) : chg (getF a pf) (getF b pf) = letS a b 63 := by
  unfold chg
  rw [unl_letS ha hb]
  rcases ha with rfl | ⟨d, rfl⟩ <;> rcases hb with rfl | ⟨d', rfl⟩
  · rfl
  · rfl
  · rfl
  · show (if (if d = d' then (32 : Int) else 77) = 65 then 63 else if d = d' then (32 : Int) else 77) = if d = d' then 32 else 77
    by_cases h : d = d'
    · simp [h]
    · simp [h]
theorem one_rows {a b c : List Fl} (ha : OneF a) (hb : OneF b) (hc : OneF c) : rowsOf a (b.map toE) c = if letS a b 65 = 32 ∧ letS b c 63 = 32 then [] else [(pf, letS a b 65, letS b c 63)] := by
  by_cases hn : a = [] ∧ b = [] ∧ c = []
  · obtain ⟨rfl, rfl, rfl⟩ := hn
    have : allP [] ([].map toE) [] = [] := rise_unique (allP_rise _ _ _) List.Pairwise.nil fun s => by rw [allP_mem]; simp
    unfold rowsOf
    rw [this]
    rfl
  · have hp : allP a (b.map toE) c = [pf] := rise_unique (allP_rise _ _ _) (List.pairwise_singleton _ _) fun s => by
      rw [allP_mem, path_toE]
      constructor
      · rintro (h | h | h)
        · simpa using ha.path s h
        · simpa using hb.path s h
        · simpa using hc.path s h
      · intro h
        obtain rfl : s = pf := by simpa using h
        rcases ha with rfl | ⟨d, rfl⟩
        · rcases hb with rfl | ⟨d, rfl⟩
          · rcases hc with rfl | ⟨d, rfl⟩
            · exact absurd ⟨rfl, rfl, rfl⟩ hn
            · simp
          · simp
        · simp
    unfold rowsOf
    rw [hp]
    unfold linesOf
    rw [List.map_cons, List.map_nil, lineOf_toE, unl_letS ha hb, chg_letS hb hc]
    by_cases hx : letS a b 65 = 32
    · by_cases hy : letS b c 63 = 32
      · rw [if_pos ⟨hx, hy⟩, hx, hy]; rfl
      · rw [if_neg (fun h => hy h.2)]
        simp [keepL, hy]
    · rw [if_neg (fun h => hx h.1)]
      simp [keepL, hx]
theorem letS_let {a b : List Fl} {n : Int} (ha : OneF a) (hb : OneF b) (hn : Let8 n) : Let8 (letS a b n) := by
  rcases ha with rfl | ⟨d, rfl⟩ <;> rcases hb with rfl | ⟨d', rfl⟩
  · exact (⟨by decide, by decide⟩ : Let8 32)
  · exact hn
  · exact (⟨by decide, by decide⟩ : Let8 68)
  · show Let8 (if d = d' then (32 : Int) else 77)
    split
    · exact ⟨by decide, by decide⟩
    · exact ⟨by decide, by decide⟩
end Go.Proofs.Ytkdoccmflknipaa
