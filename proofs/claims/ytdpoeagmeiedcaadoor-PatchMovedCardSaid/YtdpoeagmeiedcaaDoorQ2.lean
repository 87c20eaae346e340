/-
  Bounds of the hunks of a difference.
-/
import Derived.Test.YtdpoeagmeiedcaaDoorP11
namespace Go.Proofs.YtdpoeagmeiedcaaDoor
open Go Go.RowKit

theorem cutE_le (l : List EdI) (i j : Nat) : (cutE l i j).length ≤ l.length := by unfold cutE; rw [List.length_take, List.length_drop]; omega
theorem rowsF_many (a n : Nat) : ∀ (l : List EdI) (out : List HRw) (i : Nat), (rowsF a n out i l).length ≤ out.length + l.length
  | [], out, _ => by show out.length ≤ _; simp
  | e :: l, out, i => by
    have h := rowsF_many a n l (if e.1 = 1 then out else addR out (i - a) (min (i + 1 + a) n)) (i + 1)
    have h2 := addR_le out (i - a) (min (i + 1 + a) n)
    have h3 : (rowsF a n out i (e :: l)) = rowsF a n (if e.1 = 1 then out else addR out (i - a) (min (i + 1 + a) n)) (i + 1) l := rfl
    rw [h3, List.length_cons]
    split at h
    · rw [if_pos ‹_›]; omega
    · rw [if_neg ‹_›]; omega
theorem hunksF_len (l : List EdI) : ∀ (rs : List HRw) (p t d : Nat), (hunksF l p t d rs).length = rs.length
  | [], _, _, _ => rfl
  | r :: rs, p, t, d => by
    show (_ :: hunksF l _ _ _ rs).length = _
    rw [List.length_cons, List.length_cons, hunksF_len l rs]
theorem hunksF_ok (l : List EdI) (hl : l.length ≤ 200) : ∀ (rs : List HRw) (p t d : Nat), p + rs.length * 400 ≤ 1000000 → t + rs.length * 400 ≤ 1000000 → ∀ h ∈ hunksF l p t d rs, HkOk h
  | [], _, _, _, _, _, h, hh => by cases hh
  | r :: rs, p, t, d, hp, ht, h, hh => by
    have c1 := dels_le (cutE l d r.1)
    have c2 := dels_le (cutE l r.1 r.2)
    have c3 := adds_le (cutE l d r.1)
    have c4 := adds_le (cutE l r.1 r.2)
    have c5 := cutE_le l d r.1
    have c6 := cutE_le l r.1 r.2
    rw [List.length_cons] at hp ht
    rcases List.mem_cons.1 (show h ∈ _ :: hunksF l (p + dels (cutE l d r.1) + dels (cutE l r.1 r.2)) (t + adds (cutE l d r.1) + adds (cutE l r.1 r.2)) r.2 rs from hh) with rfl | hm
    · exact ⟨by show (cutE l r.1 r.2).length ≤ 200; omega, by show (-1099511627776 : Int) ≤ ((p + dels (cutE l d r.1) : Nat) : Int); omega, by show ((p + dels (cutE l d r.1) : Nat) : Int) ≤ 1099511627776; omega,
        by show (-1099511627776 : Int) ≤ ((t + adds (cutE l d r.1) : Nat) : Int); omega, by show ((t + adds (cutE l d r.1) : Nat) : Int) ≤ 1099511627776; omega⟩
    · exact hunksF_ok l hl rs _ _ _ (by omega) (by omega) h hm
theorem hunksP_ok (l : List EdI) (a : Nat) (hl : l.length ≤ 100) : (hunksP l a).length ≤ 100 ∧ ∀ h ∈ hunksP l a, HkOk h := by
  have h := rowsF_many a l.length l [] 0
  simp only [List.length_nil, Nat.zero_add] at h
  exact ⟨by unfold hunksP; rw [hunksF_len]; omega, hunksF_ok l (by omega) _ _ _ _ (by omega) (by omega)⟩
/-- The edits that a difference is, as a hunk's. -/
def edI (l : List (Nat × ByteArray)) : List EdI := l.map fun e => ((e.1 : Int), e.2)
theorem edI_len (l : List (Nat × ByteArray)) : (edI l).length = l.length := by unfold edI; simp
theorem edI_cells (l : List (Nat × ByteArray)) : (edI l).flatMap cEd = edCells l := by
  unfold edI edCells
  rw [List.flatMap_map]
  rfl
end Go.Proofs.YtdpoeagmeiedcaaDoor
