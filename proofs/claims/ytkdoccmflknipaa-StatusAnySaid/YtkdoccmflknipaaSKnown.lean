/-
  rectolaw19.known: a file that is new, one that is changed.
-/
import Derived.Test.YtkdoccmflknipaaSText
import Derived.Test.YtkdoccmflknipaaSClean
namespace Go.Proofs.Ytkdoccmflknipaa
open Go.RowKit

/-! ### The plain theory of one file in three trees -/
theorem stageE_toE (l : List Fl) : stageE (l.map toE) 0 = l := by
  unfold stageE
  rw [List.filter_eq_self.2 (fun e he => by obtain ⟨f, _, rfl⟩ := List.mem_map.1 he; rfl), List.map_map]
  exact (List.map_congr_left fun f _ => rfl).trans (List.map_id l)
theorem confE_toE (l : List Fl) : confE (l.map toE) = [] := by
  unfold confE
  rw [List.filter_eq_nil_iff.2 (fun e he => by obtain ⟨f, _, rfl⟩ := List.mem_map.1 he; simp [toE])]
  rfl
theorem nrm_nil : nrm [] = [] := nrm_of List.Pairwise.nil fun s => by simp
theorem path_toE (l : List Fl) : (l.map toE).map (·.1) = l.map (·.1) := by
  rw [List.map_map]
  exact List.map_congr_left fun f _ => rfl
theorem allP_mem (l : List Fl) (ix : List En) (wk : List Fl) (s : ByteArray) : s ∈ allP l ix wk ↔ s ∈ l.map (·.1) ∨ s ∈ ix.map (·.1) ∨ s ∈ wk.map (·.1) := by
  unfold allP trackP
  rw [nrm_mem, List.mem_append, nrm_mem, List.mem_append, nrm_mem, nrm_mem, or_assoc]
theorem allP_rise (l : List Fl) (ix : List En) (wk : List Fl) : RiseP (allP l ix wk) := nrm_rise _
theorem lineOf_toE (l n wk : List Fl) (p : ByteArray) : lineOf l (n.map toE) wk p = (p, unl (getF l p) (getF n p), chg (getF n p) (getF wk p)) := by
  unfold lineOf
  rw [confE_toE, nrm_nil, stageE_toE]
  rfl

def pa : ByteArray := ⟨#[97]⟩
def pb : ByteArray := ⟨#[98]⟩
theorem pab : cb pa pb < 0 := by decide
def kh : List Fl := [(⟨#[97]⟩, 1, ⟨#[120]⟩)]
def kw : List Fl := [(⟨#[97]⟩, 1, ⟨#[121]⟩), (⟨#[98]⟩, 1, ⟨#[]⟩)]
theorem kh_rise : RiseF kh := List.pairwise_singleton _ _
theorem kw_rise : RiseF kw := List.pairwise_pair.2 pab
theorem known_rows : rowsOf kh (kh.map toE) kw = [(⟨#[97]⟩, 32, 77), (⟨#[98]⟩, 32, 63)] := by
  have hp : allP kh (kh.map toE) kw = [pa, pb] := rise_unique (allP_rise _ _ _) (List.pairwise_pair.2 pab) fun s => by
    rw [allP_mem, path_toE]
    simp [kh, kw, pa, pb]
  unfold rowsOf
  rw [hp]
  have e1 : lineOf kh (kh.map toE) kw pa = (pa, 32, 77) := by rw [lineOf_toE]; rfl
  have e2 : lineOf kh (kh.map toE) kw pb = (pb, 32, 63) := by rw [lineOf_toE]; rfl
  unfold linesOf
  rw [List.map_cons, List.map_cons, List.map_nil, e1, e2]
  rfl
theorem known_tracked : trackP kh [] = [pa] := by
  refine rise_unique (nrm_rise _) (List.pairwise_singleton _ _) fun s => ?_
  unfold trackP
  rw [nrm_mem, List.mem_append, nrm_mem]
  simp [kh, pa]
theorem known_text : linesB [(⟨#[97]⟩, 32, 77), (⟨#[98]⟩, 32, 63)] = [32, 77, 32, 97, 10, 32, 63, 32, 98, 10] := by decide

/-- The rest of a row behind its first element. -/
theorem reads_tail {α : Type} {k : Nat} {enc : α → List Value} {w : World} {base g cap : Nat} {e : TypeId} {x : α} {l : List α} (hk : ∀ x, (enc x).length = k) (h0 : 0 < k) (h : w.ownsRow base e k (.slice (some ⟨g, 0, none⟩) (l.length + 1) cap) (l.length + 1) ((x :: l).flatMap enc)) :
    Reads k enc w (.slice (some ⟨g, k, none⟩) l.length (cap - 1)) l := by
  have hr : Reads k enc w _ (x :: l) := Reads.of_own hk h
  have hn := own_len h
  have hcm : cap - 1 ≤ maxLen := by omega
  refine ⟨some ⟨g, k, none⟩, cap - 1, rfl, by omega, hcm, (fun h => by cases h), fun ad ha i y hy j u hu => ?_⟩
  obtain rfl := Option.some.inj ha
  obtain ⟨ad, ha, hc⟩ := hr.at_ (i := i + 1) (x := y) (by simpa using hy)
  obtain rfl := Option.some.inj ha
  have := hc j u hu
  have e1 : (⟨g, 0, none⟩ : Addr).add ((i + 1) * k) = (⟨g, k, none⟩ : Addr).add (i * k) := by
    rw [add_zero_addr]
    unfold Addr.add
    split
    · rename_i h
      rcases Nat.mul_eq_zero.1 h with h | h
      · subst h; simp
      · omega
    · rw [Nat.succ_mul]; simp [Nat.add_comm]
  cases j with
  | zero => unfold adr at this ⊢; rw [e1] at this; exact this
  | succ j => unfold adr at this ⊢; rw [e1] at this; exact this
end Go.Proofs.Ytkdoccmflknipaa
