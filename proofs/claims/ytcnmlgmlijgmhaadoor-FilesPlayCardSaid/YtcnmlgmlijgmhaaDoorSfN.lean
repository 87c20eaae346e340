/-
  Bytes as arguments; StatNever for the card.
-/
import Derived.Test.YtcnmlgmlijgmhaaDoorSfArgs
import Derived.Test.YtcnmlgmlijgmhaaDoorSfM
namespace Go.Proofs.YtcnmlgmlijgmhaaDoor
open Go.ChangeShapes Go.WideShapes Go.ChangeAt Go.RowKit Go.Deep Go.Joins

def BytesAt (W : World) (A : Option Addr) (l : List UInt8) : Prop := ∀ a, A = some a → ∀ j, j < l.length → W.cell? (a.add j) = some (.int .u8 (l.getD j 0).toNat)
theorem Tryd.cells5' : Tryd.prog.cellsOf 5 = 1 := by kernel_rfl
set_option maxRecDepth 100000 in
theorem bytes_of_trod {H : Type} {enc : TypeId × Value → H} {W : World} {base : Nat} {v : Value} {d : DataW H} {p : List MemPlace} (hv : Value.okWide Tryd.prog W .any base 32 v) (h : DataW.Trod enc Tryd.prog W 0 (fun _ => true) true 32 v d p) :
    ∃ (A : Option Addr) (l : List UInt8) (c : Nat), v = .slice A l.length c ∧ BytesAt W A l ∧ (A = none → l = []) := by
  obtain ⟨A, n, c, rfl⟩ := okWide_slice Tryd.underlying32 hv
  obtain ⟨fuel, hf⟩ := h
  rcases open_ints Tryd.underlying32 Tryd.underlying5 Tryd.cells5' hf with ⟨hcs, hx⟩ | ⟨a, n', c', zs, hcs, _, hl, hm, hz, hx, hcell, hwf⟩
  · simp [Value.cells] at hcs
    obtain ⟨rfl, rfl, rfl⟩ := hcs
    exact ⟨_, [], _, rfl, (fun a e => by cases e), fun _ => rfl⟩
  · simp [Value.cells] at hcs
    obtain ⟨rfl, rfl, rfl⟩ := hcs
    simp only [if_true] at hz
    unfold maxLen at hm
    refine ⟨some a, (zs.take n).map fun z => UInt8.ofNat z.toNat, c, by rw [List.length_map, List.length_take]; congr 1; omega, fun b e j hj => ?_, fun e => by cases e⟩
    injection e with e
    subst e
    rw [List.length_map, List.length_take] at hj
    have h1 : j < zs.length := by omega
    have hw := bounds_u8 (hwf (zs.getD j 0) (by rw [List.getD, List.getElem?_eq_getElem h1]; exact List.getElem_mem h1))
    rw [hcell j h1]
    have e2 : ((zs.take n).map fun z => UInt8.ofNat z.toNat).getD j 0 = UInt8.ofNat (zs.getD j 0).toNat := by
      rw [List.getD_eq_getElem?_getD, List.getElem?_map, List.getElem?_take, if_pos (by omega), List.getElem?_eq_getElem h1, List.getD_eq_getElem?_getD, List.getElem?_eq_getElem h1]
      rfl
    rw [e2, UInt8.toNat_ofNat']
    congr 2
    omega

theorem conv_bytes (w W' : World) (A : Option Addr) (l : List UInt8) (c : Nat) (r : BytesAt w A l) (hn : A = none → l = []) (hb : Below w.heap.size w W') : (convert 32 9 (.slice A l.length c)).run Tryd.prog W' = .ok (.string ⟨l.toArray⟩) W' := by
  cases A with
  | none =>
    obtain rfl := hn rfl
    rw [run_convert_bytes_string W' 32 9 5 none _ c Tryd.underlying32 Tryd.underlying5 Tryd.underlying9]
    rfl
  | some a =>
    refine run_convert_bytes_back (P := Tryd.prog) W' 32 9 5 a c l Tryd.underlying32 Tryd.underlying5 Tryd.underlying9 (fun j hj => ?_)
    have h := r a rfl j hj
    rw [hb.cell (World.block_lt_of_cell? _ _ h), h, List.getD_eq_getElem?_getD, List.getElem?_eq_getElem hj]
    rfl
theorem statNever_law (w : World) (A0 A1 : Option Addr) (l0 : List UInt8) (c0 : Nat) (l1 : List UInt8) (c1 : Nat) (da db : Int) (r0 : BytesAt w A0 l0) (n0 : A0 = none → l0 = []) (r1 : BytesAt w A1 l1) (n1 : A1 = none → l1 = []) (bd : 0 ≤ da ∧ da ≤ 255) (be : 0 ≤ db ∧ db ≤ 255) :
    Calls Tryd.prog 8 #[.slice A0 l0.length c0, .slice A1 l1.length c1, .int .u8 da, .int .u8 db] w fun e w' => e = .returned (.bool true) ∧ Below w.heap.size w w' := by
  have h := statNever_any w A0 c0 ⟨l0.toArray⟩ A1 c1 ⟨l1.toArray⟩ da db (fun W' hb => conv_bytes w W' A0 l0 c0 r0 n0 hb) (fun W' hb => conv_bytes w W' A1 l1 c1 r1 n1 hb) bd.1 bd.2 be.1 be.2
  exact h
end Go.Proofs.YtcnmlgmlijgmhaaDoor
