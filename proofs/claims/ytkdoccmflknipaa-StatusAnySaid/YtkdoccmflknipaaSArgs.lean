/-
  An argument of bytes, read in cells.
-/
import Derived.Test.YtkdoccmflknipaaSOneW
import Derived.Test.YtkdoccmflknipaaRows
import Derived.ProofKit
import Derived.ChangeSame
import Derived.Deep.Slices
import Derived.Lib.SmallJoins
namespace Go.Proofs.Ytkdoccmflknipaa
open Go.ChangeShapes Go.WideShapes Go.ChangeAt Go.RowKit Go.Deep Go.Joins
theorem Try.laidOut : laidOutB Try.prog = true := by kernel_rfl
theorem Try.cells5' : Try.prog.cellsOf 5 = 1 := by kernel_rfl
set_option maxRecDepth 100000 in
theorem bytes_of_trod {H : Type} {enc : TypeId × Value → H} {W : World} {base : Nat} {v : Value} {d : DataW H} {p : List MemPlace} (hv : Value.okWide Try.prog W .any base 47 v) (h : DataW.Trod enc Try.prog W 0 (fun _ => true) true 47 v d p) :
    ∃ (A : Option Addr) (l : List UInt8) (c : Nat), v = .slice A l.length c ∧ BytesAt W A l ∧ l.length ≤ 9223372036854775807 := by
  obtain ⟨A, n, c, rfl⟩ := okWide_slice Try.underlying47 hv
  obtain ⟨fuel, hf⟩ := h
  rcases open_ints Try.underlying47 Try.underlying5 Try.cells5' hf with ⟨hcs, hx⟩ | ⟨a, n', c', zs, hcs, _, hl, hm, hz, hx, hcell, hwf⟩
  · simp [Value.cells] at hcs
    obtain ⟨rfl, rfl, rfl⟩ := hcs
    exact ⟨_, [], _, rfl, (fun a e => by cases e), by simp⟩
  · simp [Value.cells] at hcs
    obtain ⟨rfl, rfl, rfl⟩ := hcs
    simp only [if_true] at hz
    unfold maxLen at hm
    refine ⟨some a, (zs.take n).map fun z => UInt8.ofNat z.toNat, c, by rw [List.length_map, List.length_take]; congr 1; omega, fun b e j hj => ?_, by rw [List.length_map, List.length_take]; omega⟩
    injection e with e
    subst e
    rw [List.length_map, List.length_take] at hj
    have h1 : j < zs.length := by omega
    have hw := bounds_u8 (hwf (zs.getD j 0) (by rw [List.getD, List.getElem?_eq_getElem h1]; exact List.getElem_mem h1))
    rw [hcell j h1]
    have e2 : ((zs.take n).map fun z => UInt8.ofNat z.toNat).getD j 0 = UInt8.ofNat (zs.getD j 0).toNat := by
      rw [List.getD_eq_getElem?_getD, List.getElem?_map, List.getElem?_take, if_pos (by omega), List.getElem?_eq_getElem h1, List.getD_eq_getElem?_getD, List.getElem?_eq_getElem h1]
      rfl
    rw [e2, UInt8.toNat_ofNat']
    congr 2
    omega
end Go.Proofs.Ytkdoccmflknipaa
