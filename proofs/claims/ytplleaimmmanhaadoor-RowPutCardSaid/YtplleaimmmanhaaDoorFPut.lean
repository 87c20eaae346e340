/-
  (Row).Put: a file put into a tree that rises.
-/
import Derived.Test.YtplleaimmmanhaaDoorFCat
import Derived.Test.YtplleaimmmanhaaDoorFThy
import Derived.Deep.RegionHeld3
namespace Go.Proofs.YtplleaimmmanhaaDoor
open Go.RowKit

section
variable {α : Type} {k : Nat} {enc : α → List Value} {w : World} {A : Option Addr} {n c : Nat} {l : List α}
theorem Reads.front (h : Reads k enc w (.slice A n c) l) {i : Nat} (hi : i ≤ n) : Reads k enc w (.slice A i c) (l.take i) := by
  obtain ⟨hn, hnc, hcm⟩ := h.len
  obtain ⟨A', c', hv, h1, h2, h3, h4⟩ := h
  injection hv with e1 e2 e3
  subst e1; subst e3
  refine ⟨A, c, by rw [List.length_take, Nat.min_eq_left (by omega)], by rw [List.length_take]; omega, hcm, h3, fun ad ha j x hx => h4 ad ha j x ?_⟩
  rw [List.getElem?_take] at hx
  split at hx
  · exact hx
  · cases hx
theorem Reads.cut (h : Reads k enc w (.slice A n c) l) {i : Nat} (hi : i ≤ n) : Reads k enc w (.slice (if c = i then A else A.map (·.add (i * k))) (n - i) (c - i)) (l.drop i) := by
  obtain ⟨hn, hnc, hcm⟩ := h.len
  obtain ⟨A', c', hv, h1, h2, h3, h4⟩ := h
  injection hv with e1 e2 e3
  subst e1; subst e3
  refine ⟨_, c - i, by rw [List.length_drop, hn], by rw [List.length_drop]; omega, by omega, ?_, ?_⟩
  · intro hA
    by_cases hc : c = i
    · omega
    · rw [if_neg hc] at hA
      have : A = none := by cases A with | none => rfl | some a => simp at hA
      have := h3 this
      omega
  · intro ad ha j x hx u v hv
    rw [List.getElem?_drop] at hx
    have hj := (List.getElem?_eq_some_iff.1 hx).1
    by_cases hc : c = i
    · omega
    · rw [if_neg hc] at ha
      cases A with
      | none => simp at ha
      | some a =>
        simp at ha
        subst ha
        have := h4 a rfl (i + j) x hx u v hv
        rw [adr_flat] at this ⊢
        have e : (a.add (i * k)).add (j * k + u) = a.add ((i + j) * k + u) := by
          rw [Nat.add_mul, Nat.add_assoc]
          generalize i * k = p
          generalize j * k + u = q
          unfold Addr.add
          by_cases hp : p = 0
          · subst hp; simp
          · by_cases hq : q = 0
            · subst hq; simp [hp]
            · simp [hp, hq, Nat.add_assoc]
        rw [e]
        exact this
end

set_option maxRecDepth 100000 in
set_option maxHeartbeats 4000000 in
theorem put_core (w2 : World) (A : Option Addr) (c : Nat) (l : List Fl) (p d : ByteArray) (m : Int) (i j : Nat) (R : Reads 3 cF w2 (.slice A l.length c) l) (hij : i ≤ j) (hj : j ≤ l.length) (hl : l.length ≤ 10000) :
    ∀ W, (∀ a, W.cell? a = ((w2.alloc (.cells #[.string p, .int .i64 m, .string d] 42)).alloc (.cells #[.slice A i c, .slice (some ⟨w2.heap.size, 0, none⟩) 1 1, .slice (if c = j then A else A.map (·.add (j * 3))) (l.length - j) (c - j)] 23)).cell? a) →
      Calls Tryd.prog 45 #[.slice (some ⟨w2.heap.size + 1, 0, none⟩) 3 3] W (OwnTo 42 3 cF (l.take i ++ (p, m, d) :: l.drop j) W) := fun W hW => by
  obtain ⟨hn, hnc, hcm⟩ := R.len
  have k2 := heap_alloc2_new w2 (.cells #[.string p, .int .i64 m, .string d] 42) (.cells #[.slice A i c, .slice (some ⟨w2.heap.size, 0, none⟩) 1 1, .slice (if c = j then A else A.map (·.add (j * 3))) (l.length - j) (c - j)] 23)
  have k1 := heap_alloc2_old w2 (.cells #[.string p, .int .i64 m, .string d] 42) (.cells #[.slice A i c, .slice (some ⟨w2.heap.size, 0, none⟩) 1 1, .slice (if c = j then A else A.map (·.add (j * 3))) (l.length - j) (c - j)] 23)
  have keep : ∀ {l' : List Fl} {v : Value}, Reads 3 cF w2 v l' → Reads 3 cF W v l' := fun h => ((h.alloc _).alloc _).keep fun q _ => hW q
  have hone : Reads 3 cF W (.slice (some ⟨w2.heap.size, 0, none⟩) 1 1) [(p, m, d)] := by
    refine Reads.keep (w := (w2.alloc _).alloc _) ?_ fun q _ => hW q
    refine ⟨some ⟨w2.heap.size, 0, none⟩, 1, rfl, Nat.le_refl _, by unfold maxLen; omega, (fun h => by cases h), fun ad ha t x hx u v hv => ?_⟩
    obtain rfl := Option.some.inj ha
    have ht : t = 0 := by have := (List.getElem?_eq_some_iff.1 hx).1; simp at this; omega
    subst ht
    obtain rfl := Option.some.inj hx
    rw [adr_flat, add_zero_addr, cell_of_row _ _ _ _ _ _ k1]
    simpa [cF] using hv
  have T : Trees W ⟨w2.heap.size + 1, 0, none⟩ [(.slice A i c, l.take i), (.slice (some ⟨w2.heap.size, 0, none⟩) 1 1, [(p, m, d)]), (.slice (if c = j then A else A.map (·.add (j * 3))) (l.length - j) (c - j), l.drop j)] := fun t r hr => by
    match t, hr with
    | 0, hr => obtain rfl := Option.some.inj hr; exact ⟨by rw [hW, add_zero_addr, cell_of_row _ _ _ _ _ _ k2]; rfl, keep (R.front (by omega))⟩
    | 1, hr => obtain rfl := Option.some.inj hr; exact ⟨by rw [hW, add_zero_addr, cell_of_row _ _ _ _ _ _ k2]; rfl, hone⟩
    | 2, hr => obtain rfl := Option.some.inj hr; exact ⟨by rw [hW, add_zero_addr, cell_of_row _ _ _ _ _ _ k2]; rfl, keep (R.cut hj)⟩
    | t + 3, hr => simp at hr
  have := concat_any W ⟨w2.heap.size + 1, 0, none⟩ 3 _ T (by simp) (by simp [catR]; omega)
  simpa [catR] using this
end Go.Proofs.YtplleaimmmanhaaDoor
