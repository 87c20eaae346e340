/-
  The plain theory of paths: a text cut at its strokes.
-/
import Derived.Lib.SplitLaws
import Derived.Lib.Split
import Derived.Lib.IndexBytes
namespace Go.Proofs.YtkhdjlakclidoaaDoor
open Go.Lib

/-- A text cut at each stroke. -/
def spl : List UInt8 → List (List UInt8)
  | [] => [[]]
  | c :: r => if c = 47 then [] :: spl r else ((c :: (spl r).headD []) :: (spl r).tail)
theorem spl_ne : ∀ l : List UInt8, spl l ≠ []
  | [] => by simp [spl]
  | c :: r => by unfold spl; split <;> simp
theorem spl_miss : ∀ l : List UInt8, indexByte l 47 = -1 → spl l = [l]
  | [], _ => rfl
  | c :: r, h => by
    unfold indexByte at h
    by_cases hc : c = 47
    · subst hc; simp at h
    · have hc2 : (c == 47) = false := by simpa using hc
      rw [hc2] at h
      simp only [Bool.false_eq_true, if_false] at h
      by_cases h1 : indexByte r 47 = -1
      · rw [spl, if_neg hc, spl_miss r h1]; rfl
      · have h2 : (indexByte r 47 == -1) = false := by simpa using h1
        rw [h2] at h
        have := indexByte_ge r 47
        simp at h
        omega
theorem spl_hit : ∀ (l : List UInt8) (i : Nat), indexByte l 47 = i → spl l = l.take i :: spl (l.drop (i + 1))
  | [], i, h => by simp [indexByte] at h
  | c :: r, i, h => by
    unfold indexByte at h
    by_cases hc : c = 47
    · subst hc
      simp at h
      obtain rfl : i = 0 := by omega
      rw [spl, if_pos rfl]; rfl
    · have hc2 : (c == 47) = false := by simpa using hc
      rw [hc2] at h
      simp only [Bool.false_eq_true, if_false] at h
      by_cases h1 : indexByte r 47 = -1
      · rw [h1] at h; simp at h
      · have h2 : (indexByte r 47 == -1) = false := by simpa using h1
        have hg := indexByte_ge r 47
        rw [h2] at h
        simp only [Bool.false_eq_true, if_false] at h
        obtain ⟨k, rfl⟩ : ∃ k, i = k + 1 := ⟨i - 1, by omega⟩
        have ih := spl_hit r k (by omega)
        rw [spl, if_neg hc, ih]
        rfl
theorem spl_len : ∀ l : List UInt8, (spl l).length ≤ l.length + 1
  | [] => by simp [spl]
  | c :: r => by
    have ih := spl_len r
    unfold spl
    split
    · simp; exact ih
    · simp; omega
theorem index_lt (l : List UInt8) (i : Nat) (h : indexByte l 47 = i) : i < l.length := by
  have := (indexByte_some h).1
  exact (List.getElem?_eq_some_iff.1 this).1
/-- The library's cutting, at one stroke, is this one. -/
theorem splitK_spl : ∀ (k : Nat) (l : List UInt8), l.length ≤ k → splitK [47] 0 (l.count 47) l = spl l
  | k, l, hk => by
    rcases Int.lt_or_le (indexByte l 47) 0 with h | h
    · have hm : indexByte l 47 = -1 := by have := indexByte_ge l 47; omega
      have hc : l.count 47 = 0 := by
        rw [List.count_eq_zero]
        intro hmem
        obtain ⟨j, hj, e⟩ := List.getElem_of_mem hmem
        exact indexByte_none hm j (by rw [List.getElem?_eq_getElem hj, e])
      rw [hc, spl_miss l hm]; rfl
    · obtain ⟨i, hi⟩ : ∃ i : Nat, indexByte l 47 = i := ⟨(indexByte l 47).toNat, by omega⟩
      have hlt := index_lt l i hi
      obtain ⟨h1, h2⟩ := indexByte_some hi
      have hcut : l.count 47 = (l.drop (i + 1)).count 47 + 1 := by
        have e : l = l.take i ++ l[i] :: l.drop (i + 1) := by rw [← List.drop_eq_getElem_cons hlt, List.take_append_drop]
        have hli : l[i] = 47 := by rw [List.getElem?_eq_getElem hlt] at h1; exact Option.some.inj h1
        have h0 : (l.take i).count 47 = 0 := by
          rw [List.count_eq_zero]
          intro hmem
          obtain ⟨j, hj, e⟩ := List.getElem_of_mem hmem
          rw [List.length_take] at hj
          rw [List.getElem_take] at e
          exact h2 j (by omega) (by rw [List.getElem?_eq_getElem (by omega), e])
        conv => lhs; rw [e]
        rw [List.count_append, h0, hli, List.count_cons_self]
        omega
      cases k with
      | zero => omega
      | succ k =>
        rw [hcut, spl_hit l i hi, splitK]
        have hx : index l [47] = i := by rw [index_one]; exact hi
        rw [hx, if_neg (by simp)]
        have ih := splitK_spl k (l.drop (i + 1)) (by rw [List.length_drop]; omega)
        simp only [Int.toNat_natCast, Nat.add_zero, List.length_singleton]
        rw [ih]
end Go.Proofs.YtkhdjlakclidoaaDoor
