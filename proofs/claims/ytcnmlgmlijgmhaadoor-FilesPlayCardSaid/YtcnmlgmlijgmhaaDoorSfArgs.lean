/-
  Arguments that are an entry and a stat by value.
-/
import Derived.Test.YtcnmlgmlijgmhaaDoorSMem
import Derived.Test.YtcnmlgmlijgmhaaDoorRows
import Derived.ProofKit
import Derived.OpenShut
import Derived.ChangeSame
import Derived.Deep.Slices
import Derived.Lib.SmallJoins
namespace Go.Proofs.YtcnmlgmlijgmhaaDoor
open Go.ChangeShapes Go.WideShapes Go.ChangeAt Go.RowKit Go.Deep Go.Joins

theorem Tryd.laidOut : laidOutB Tryd.prog = true := by kernel_rfl
section
variable {H : Type} {enc : TypeId × Value → H} {P : Program} {w : World} {base : Nat} {spare : Nat → Bool} {held : Bool}
theorem trod_struct6 {t : TypeId} {f0 f1 f2 f3 f4 f5 : Field} {fuel : Nat} {cs : List Value} {x : DataW H × List MemPlace} (ht : P.underlying t = some (.struct #[f0, f1, f2, f3, f4, f5])) (h : DataW.trod enc P w base spare held fuel t cs = some x) :
    ∃ y0 y1 y2 y3 y4 y5 n, cs.length = P.cellsOf t ∧ DataW.trod enc P w base spare held n f0.type ((cs.drop f0.offset).take (P.cellsOf f0.type)) = some y0 ∧
      DataW.trod enc P w base spare held n f1.type ((cs.drop f1.offset).take (P.cellsOf f1.type)) = some y1 ∧ DataW.trod enc P w base spare held n f2.type ((cs.drop f2.offset).take (P.cellsOf f2.type)) = some y2 ∧
      DataW.trod enc P w base spare held n f3.type ((cs.drop f3.offset).take (P.cellsOf f3.type)) = some y3 ∧ DataW.trod enc P w base spare held n f4.type ((cs.drop f4.offset).take (P.cellsOf f4.type)) = some y4 ∧
      DataW.trod enc P w base spare held n f5.type ((cs.drop f5.offset).take (P.cellsOf f5.type)) = some y5 := by
  obtain ⟨xs, n, _, rfl, hl, hlen, hf⟩ := DataW.trod_struct ht h
  match xs, hlen with
  | [y0, y1, y2, y3, y4, y5], _ => exact ⟨y0, y1, y2, y3, y4, y5, n, hl, by simpa using hf 0 f0 rfl, by simpa using hf 1 f1 rfl, by simpa using hf 2 f2 rfl, by simpa using hf 3 f3 rfl, by simpa using hf 4 f4 rfl, by simpa using hf 5 f5 rfl⟩
end

set_option maxRecDepth 100000 in
theorem ent_of_trod {H : Type} {enc : TypeId × Value → H} {W : World} {base : Nat} {v : Value} {d : DataW H} {p : List MemPlace} (hv : Value.okWide Tryd.prog W .any base 60 v) (h : DataW.Trod enc Tryd.prog W 0 (fun _ => true) true 60 v d p) :
    ∃ (s0 : ByteArray) (N1 N2 : Int) (s3 : ByteArray) (N4 N5 : Int), v = .agg #[.string s0, .int .i64 N1, .int .i64 N2, .string s3, .int .i64 N4, .int .i64 N5] := by
  obtain ⟨cs, rfl, hs⟩ := okWide_struct Tryd.underlying60 hv
  obtain ⟨fuel, hf⟩ := h
  obtain ⟨y0, y1, y2, y3, y4, y5, n2, _, h0, h1, h2, h3, h4, h5⟩ := trod_struct6 Tryd.underlying60 hf
  rw [show Tryd.prog.cellsOf 60 = 6 by kernel_rfl] at hs
  obtain ⟨cl⟩ := cs
  simp at hs
  match cl, hs with
  | [u0, u1, u2, u3, u4, u5], _ =>
    obtain ⟨s0, hs0, _, _⟩ := DataW.trod_string Tryd.underlying9 h0
    obtain ⟨N1, hN1, _, _⟩ := DataW.trod_int Tryd.underlying3 h1
    obtain ⟨N2, hN2, _, _⟩ := DataW.trod_int Tryd.underlying3 h2
    obtain ⟨s3, hs3, _, _⟩ := DataW.trod_string Tryd.underlying9 h3
    obtain ⟨N4, hN4, _, _⟩ := DataW.trod_int Tryd.underlying3 h4
    obtain ⟨N5, hN5, _, _⟩ := DataW.trod_int Tryd.underlying3 h5
    have c3 : Tryd.prog.cellsOf 3 = 1 := by kernel_rfl
    have c9 : Tryd.prog.cellsOf 9 = 1 := by kernel_rfl
    rw [show Tryd.prog.cellsOf 9 = 1 from c9] at hs0 hs3
    rw [show Tryd.prog.cellsOf 3 = 1 from c3] at hN1 hN2 hN4 hN5
    have e0 : u0 = .string s0 := by simpa [Value.cells] using hs0
    have e1 : u1 = .int .i64 N1 := by simpa [Value.cells] using hN1
    have e2 : u2 = .int .i64 N2 := by simpa [Value.cells] using hN2
    have e3 : u3 = .string s3 := by simpa [Value.cells] using hs3
    have e4 : u4 = .int .i64 N4 := by simpa [Value.cells] using hN4
    have e5 : u5 = .int .i64 N5 := by simpa [Value.cells] using hN5
    exact ⟨s0, N1, N2, s3, N4, N5, by rw [e0, e1, e2, e3, e4, e5]⟩

set_option maxRecDepth 100000 in
theorem stat_of_trod {H : Type} {enc : TypeId × Value → H} {W : World} {base : Nat} {v : Value} {d : DataW H} {p : List MemPlace} (hv : Value.okWide Tryd.prog W .any base 51 v) (h : DataW.Trod enc Tryd.prog W 0 (fun _ => true) true 51 v d p) :
    ∃ N0 N1 N2 N3 : Int, v = .agg #[.int .i64 N0, .int .i64 N1, .int .i64 N2, .int .i64 N3] := by
  obtain ⟨cs, rfl, hs⟩ := okWide_struct Tryd.underlying51 hv
  obtain ⟨fuel, hf⟩ := h
  obtain ⟨y0, y1, y2, y3, n2, _, _, h0, h1, h2, h3⟩ := trod_struct4 Tryd.underlying51 hf
  rw [show Tryd.prog.cellsOf 51 = 4 by kernel_rfl] at hs
  obtain ⟨cl⟩ := cs
  simp at hs
  match cl, hs with
  | [u0, u1, u2, u3], _ =>
    obtain ⟨N0, hN0, _, _⟩ := DataW.trod_int Tryd.underlying3 h0
    obtain ⟨N1, hN1, _, _⟩ := DataW.trod_int Tryd.underlying3 h1
    obtain ⟨N2, hN2, _, _⟩ := DataW.trod_int Tryd.underlying3 h2
    obtain ⟨N3, hN3, _, _⟩ := DataW.trod_int Tryd.underlying3 h3
    have c3 : Tryd.prog.cellsOf 3 = 1 := by kernel_rfl
    rw [show Tryd.prog.cellsOf 3 = 1 from c3] at hN0 hN1 hN2 hN3
    have e0 : u0 = .int .i64 N0 := by simpa [Value.cells] using hN0
    have e1 : u1 = .int .i64 N1 := by simpa [Value.cells] using hN1
    have e2 : u2 = .int .i64 N2 := by simpa [Value.cells] using hN2
    have e3 : u3 = .int .i64 N3 := by simpa [Value.cells] using hN3
    exact ⟨N0, N1, N2, N3, by rw [e0, e1, e2, e3]⟩
end Go.Proofs.YtcnmlgmlijgmhaaDoor
