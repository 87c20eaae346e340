/-
  The invariant of a play: commits are above 0, the branch is empty or good.
-/
import Derived.Test.YtkhdjlakclidoaaNPlayA
namespace Go.Proofs.Ytkhdjlakclidoaa
open Go Go.RowKit

/-- Commits above 0; the branch is empty, or may be called so. -/
def Fine (l : List Rf) (br : ByteArray) : Prop := (∀ x ∈ l, 1 ≤ x.2) ∧ (br.size = 0 ∨ goodN br = true)
theorem Fine.pos {l : List Rf} {br : ByteArray} (h : Fine l br) (k : Nat) (x : Rf) (hx : l[k]? = some x) : 1 ≤ x.2 := h.1 x (List.mem_of_getElem? hx)
theorem setR_pos {l : List Rf} {s : ByteArray} {c : Int} (h : ∀ x ∈ l, 1 ≤ x.2) (hc : 1 ≤ c) : ∀ x ∈ setR l s c, 1 ≤ x.2 := by
  intro x hx
  unfold setR at hx
  split at hx
  · rcases List.mem_or_eq_of_mem_set hx with e | e
    · exact h x e
    · subst e; exact hc
  · unfold insR at hx
    rcases List.mem_append.1 hx with e | e
    · exact h x (List.mem_of_mem_take e)
    · rcases List.mem_cons.1 e with e | e
      · subst e; exact hc
      · exact h x (List.mem_of_mem_drop e)
theorem setL_pos {l : List Rf} {s : ByteArray} {c : Int} (h : ∀ x ∈ l, 1 ≤ x.2) : ∀ x ∈ setL l s c, 1 ≤ x.2 := by
  unfold setL
  split
  · rename_i h0
    refine setR_pos h ?_
    unfold setC at h0
    split at h0
    · split at h0
      · omega
      · omega
    · omega
  · exact h
theorem delL_pos {l : List Rf} {s br : ByteArray} (h : ∀ x ∈ l, 1 ≤ x.2) : ∀ x ∈ delL l s br, 1 ≤ x.2 := by
  unfold delL
  split
  · intro x hx
    unfold delR at hx
    rcases List.mem_append.1 hx with e | e
    · exact h x (List.mem_of_mem_take e)
    · exact h x (List.mem_of_mem_drop e)
  · exact h
theorem Fine.step {l : List Rf} {br : ByteArray} (h : Fine l br) (op N M : Int) (nm : ByteArray) : Fine (aL op N M nm l br) (aB op N nm br) := by
  refine ⟨?_, ?_⟩
  · unfold aL
    split
    · exact setL_pos h.1
    · split
      · unfold swL
        repeat' split
        all_goals first | exact h.1 | exact setL_pos h.1 | exact delL_pos h.1
      · split
        · exact delL_pos h.1
        · split
          · unfold movL
            split
            · exact h.1
            · exact setL_pos h.1
          · exact h.1
  · unfold aB
    split
    · unfold attB
      split
      · rename_i hg; exact .inr hg
      · exact h.2
    · split
      · unfold detB
        split
        · exact h.2
        · exact .inl rfl
      · exact h.2
#print axioms Fine.step
end Go.Proofs.Ytkhdjlakclidoaa
