/-
  Arguments that are bytes, trees, entries and a file, read in cells.
-/
import Derived.Test.YtapcnmnnichamaaGreatDoorSMem
import Derived.Test.YtapcnmnnichamaaGreatDoorRows
import Derived.ProofKit
import Derived.OpenShut
import Derived.ChangeSame
import Derived.Deep.Slices
import Derived.Lib.SmallJoins
namespace Go.Proofs.YtapcnmnnichamaaGreatDoor
open Go.ChangeShapes Go.WideShapes Go.ChangeAt Go.RowKit Go.Deep Go.Joins

def BytesAt (W : World) (A : Option Addr) (l : List UInt8) : Prop := ∀ a, A = some a → ∀ j, j < l.length → W.cell? (a.add j) = some (.int .u8 (l.getD j 0).toNat)
theorem Tryz.laidOut : laidOutB Tryz.prog = true := by kernel_rfl
theorem Tryz.cells5' : Tryz.prog.cellsOf 5 = 1 := by kernel_rfl
set_option maxRecDepth 100000 in
theorem bytes_of_trod {H : Type} {enc : TypeId × Value → H} {W : World} {base : Nat} {v : Value} {d : DataW H} {p : List MemPlace} (hv : Value.okWide Tryz.prog W .any base 133 v) (h : DataW.Trod enc Tryz.prog W 0 (fun _ => true) true 133 v d p) :
    ∃ (A : Option Addr) (l : List UInt8) (c : Nat), v = .slice A l.length c ∧ BytesAt W A l ∧ l.length ≤ 9223372036854775807 := by
  obtain ⟨A, n, c, rfl⟩ := okWide_slice Tryz.underlying133 hv
  obtain ⟨fuel, hf⟩ := h
  rcases open_ints Tryz.underlying133 Tryz.underlying5 Tryz.cells5' hf with ⟨hcs, hx⟩ | ⟨a, n', c', zs, hcs, _, hl, hm, hz, hx, hcell, hwf⟩
  · simp [Value.cells] at hcs
    obtain ⟨rfl, rfl, rfl⟩ := hcs
    exact ⟨_, [], _, rfl, (fun a e => by cases e), by simp⟩
  · simp [Value.cells] at hcs
    obtain ⟨rfl, rfl, rfl⟩ := hcs
    simp only [if_true] at hz
    unfold maxLen at hm
    refine ⟨some a, (zs.take n).map fun z => UInt8.ofNat z.toNat, c, by rw [List.length_map, List.length_take]; congr 1; omega, fun b e j hj => ?_, by rw [List.length_map, List.length_take]; omega⟩
    injection e with e
    subst e
    rw [List.length_map, List.length_take] at hj
    have h1 : j < zs.length := by omega
    have hw := bounds_u8 (hwf (zs.getD j 0) (by rw [List.getD, List.getElem?_eq_getElem h1]; exact List.getElem_mem h1))
    rw [hcell j h1]
    have e2 : ((zs.take n).map fun z => UInt8.ofNat z.toNat).getD j 0 = UInt8.ofNat (zs.getD j 0).toNat := by
      rw [List.getD_eq_getElem?_getD, List.getElem?_map, List.getElem?_take, if_pos (by omega), List.getElem?_eq_getElem h1, List.getD_eq_getElem?_getD, List.getElem?_eq_getElem h1]
      rfl
    rw [e2, UInt8.toNat_ofNat']
    congr 2
    omega
theorem Tryz.cellsF : Tryz.prog.cellsOf 49 = 3 := by kernel_rfl
theorem Tryz.cellsEn : Tryz.prog.cellsOf 100 = 6 := by kernel_rfl
theorem list_of {α : Type} {P : Nat → α → Prop} : ∀ n : Nat, (∀ i, i < n → ∃ x, P i x) → ∃ l : List α, l.length = n ∧ ∀ i x, l[i]? = some x → P i x
  | 0, _ => ⟨[], rfl, fun i x h => by simp at h⟩
  | n + 1, h => by
    obtain ⟨l, hl, hp⟩ := list_of n (fun i hi => h i (by omega))
    obtain ⟨x, hx⟩ := h n (by omega)
    refine ⟨l ++ [x], by simp [hl], fun i y hy => ?_⟩
    rcases Nat.lt_or_ge i n with hi | hi
    · rw [List.getElem?_append_left (by omega)] at hy
      exact hp i y hy
    · rw [List.getElem?_append_right (by omega), hl] at hy
      have : i - n = 0 := by
        have := (List.getElem?_eq_some_iff.1 hy).1
        simp at this; omega
      rw [this] at hy
      simp at hy
      rw [show i = n by omega, ← hy]; exact hx
section
variable {H : Type} {enc : TypeId × Value → H} {P : Program} {w : World} {base : Nat} {spare : Nat → Bool} {held : Bool}
theorem trod_struct6 {t : TypeId} {f0 f1 f2 f3 f4 f5 : Field} {fuel : Nat} {cs : List Value} {x : DataW H × List MemPlace} (ht : P.underlying t = some (.struct #[f0, f1, f2, f3, f4, f5])) (h : DataW.trod enc P w base spare held fuel t cs = some x) :
    ∃ y0 y1 y2 y3 y4 y5 n, cs.length = P.cellsOf t ∧ DataW.trod enc P w base spare held n f0.type ((cs.drop f0.offset).take (P.cellsOf f0.type)) = some y0 ∧
      DataW.trod enc P w base spare held n f1.type ((cs.drop f1.offset).take (P.cellsOf f1.type)) = some y1 ∧ DataW.trod enc P w base spare held n f2.type ((cs.drop f2.offset).take (P.cellsOf f2.type)) = some y2 ∧
      DataW.trod enc P w base spare held n f3.type ((cs.drop f3.offset).take (P.cellsOf f3.type)) = some y3 ∧ DataW.trod enc P w base spare held n f4.type ((cs.drop f4.offset).take (P.cellsOf f4.type)) = some y4 ∧
      DataW.trod enc P w base spare held n f5.type ((cs.drop f5.offset).take (P.cellsOf f5.type)) = some y5 := by
  obtain ⟨xs, n, _, rfl, hl, hlen, hf⟩ := DataW.trod_struct ht h
  match xs, hlen with
  | [y0, y1, y2, y3, y4, y5], _ => exact ⟨y0, y1, y2, y3, y4, y5, n, hl, by simpa using hf 0 f0 rfl, by simpa using hf 1 f1 rfl, by simpa using hf 2 f2 rfl, by simpa using hf 3 f3 rfl, by simpa using hf 4 f4 rfl, by simpa using hf 5 f5 rfl⟩
end

set_option maxRecDepth 100000 in
theorem files_of_trod {H : Type} {enc : TypeId × Value → H} {W : World} {base : Nat} {v : Value} {d : DataW H} {p : List MemPlace} (hv : Value.okWide Tryz.prog W .any base 23 v) (h : DataW.Trod enc Tryz.prog W 0 (fun _ => true) true 23 v d p) :
    ∃ l : List Fl, Reads 3 cF W v l := by
  obtain ⟨A, n, c, rfl⟩ := okWide_slice Tryz.underlying23 hv
  obtain ⟨fuel, hf⟩ := h
  rcases open_slice Tryz.underlying23 hf with ⟨hcs, _⟩ | ⟨a, n', c', m, n1, D, Pl, hcs, _, hl, hm, hmm, _, hi⟩
  · simp [Value.cells] at hcs
    obtain ⟨rfl, rfl, rfl⟩ := hcs
    exact ⟨[], Reads.nil W⟩
  · simp [Value.cells] at hcs
    obtain ⟨rfl, rfl, rfl⟩ := hcs
    have each : ∀ i, i < n → ∃ x : Fl, ∀ (j : Nat) (u : Value), (cF x)[j]? = some u → W.cell? (adr a i 3 j) = some u := fun i hin => by
      obtain ⟨cs', hc, ht⟩ := hi i (by rw [hmm]; split <;> omega)
      rw [Tryz.cellsF] at hc
      obtain ⟨_, hcl, hat⟩ := World.cells?_some hc
      obtain ⟨y0, y1, y2, n2, _, _, h0, h1, h2⟩ := trod_struct3 Tryz.underlying49 ht
      match cs', hcl with
      | [u0, u1, u2], _ =>
        obtain ⟨s0, hs0, _, _⟩ := DataW.trod_string Tryz.underlying9 h0
        obtain ⟨N, hN, _, _⟩ := DataW.trod_int Tryz.underlying3 h1
        obtain ⟨s2, hs2, _, _⟩ := DataW.trod_string Tryz.underlying9 h2
        have c3 : Tryz.prog.cellsOf 3 = 1 := by kernel_rfl
        have c9 : Tryz.prog.cellsOf 9 = 1 := by kernel_rfl
        have e0 : u0 = .string s0 := by
          have := hs0
          rw [show Tryz.prog.cellsOf 9 = 1 from c9] at this
          simpa using this
        have e1 : u1 = .int .i64 N := by
          have := hN
          rw [show Tryz.prog.cellsOf 3 = 1 from c3] at this
          simpa using this
        have e2 : u2 = .string s2 := by
          have := hs2
          rw [show Tryz.prog.cellsOf 9 = 1 from c9] at this
          simpa using this
        subst e0; subst e1; subst e2
        refine ⟨(s0, N, s2), fun j u hu => ?_⟩
        match j, hu with
        | 0, hu => simp [cF] at hu; subst hu; exact hat 0 (by omega)
        | 1, hu => simp [cF] at hu; subst hu; exact hat 1 (by omega)
        | 2, hu => simp [cF] at hu; subst hu; exact hat 2 (by omega)
        | j + 3, hu => simp [cF] at hu
    obtain ⟨l, hll, hp⟩ := list_of n each
    exact ⟨l, some a, c, by rw [hll], by omega, hm, (fun e => by cases e), fun ad ha i x hx j u hu => by
      obtain rfl := Option.some.inj ha
      exact hp i x hx j u hu⟩

set_option maxRecDepth 100000 in
theorem ents_of_trod {H : Type} {enc : TypeId × Value → H} {W : World} {base : Nat} {v : Value} {d : DataW H} {p : List MemPlace} (hv : Value.okWide Tryz.prog W .any base 26 v) (h : DataW.Trod enc Tryz.prog W 0 (fun _ => true) true 26 v d p) :
    ∃ l : List En, Reads 6 cE W v l := by
  obtain ⟨A, n, c, rfl⟩ := okWide_slice Tryz.underlying26 hv
  obtain ⟨fuel, hf⟩ := h
  rcases open_slice Tryz.underlying26 hf with ⟨hcs, _⟩ | ⟨a, n', c', m, n1, D, Pl, hcs, _, hl, hm, hmm, _, hi⟩
  · simp [Value.cells] at hcs
    obtain ⟨rfl, rfl, rfl⟩ := hcs
    exact ⟨[], Reads.nil W⟩
  · simp [Value.cells] at hcs
    obtain ⟨rfl, rfl, rfl⟩ := hcs
    have each : ∀ i, i < n → ∃ x : En, ∀ (j : Nat) (u : Value), (cE x)[j]? = some u → W.cell? (adr a i 6 j) = some u := fun i hin => by
      obtain ⟨cs', hc, ht⟩ := hi i (by rw [hmm]; split <;> omega)
      rw [Tryz.cellsEn] at hc
      obtain ⟨_, hcl, hat⟩ := World.cells?_some hc
      obtain ⟨y0, y1, y2, y3, y4, y5, n2, _, h0, h1, h2, h3, h4, h5⟩ := trod_struct6 Tryz.underlying100 ht
      match cs', hcl with
      | [u0, u1, u2, u3, u4, u5], _ =>
        obtain ⟨s0, hs0, _, _⟩ := DataW.trod_string Tryz.underlying9 h0
        obtain ⟨N1, hN1, _, _⟩ := DataW.trod_int Tryz.underlying3 h1
        obtain ⟨N2, hN2, _, _⟩ := DataW.trod_int Tryz.underlying3 h2
        obtain ⟨s3, hs3, _, _⟩ := DataW.trod_string Tryz.underlying9 h3
        obtain ⟨N4, hN4, _, _⟩ := DataW.trod_int Tryz.underlying3 h4
        obtain ⟨N5, hN5, _, _⟩ := DataW.trod_int Tryz.underlying3 h5
        have c3 : Tryz.prog.cellsOf 3 = 1 := by kernel_rfl
        have c9 : Tryz.prog.cellsOf 9 = 1 := by kernel_rfl
        rw [show Tryz.prog.cellsOf 9 = 1 from c9] at hs0 hs3
        rw [show Tryz.prog.cellsOf 3 = 1 from c3] at hN1 hN2 hN4 hN5
        have e0 : u0 = .string s0 := by simpa using hs0
        have e1 : u1 = .int .i64 N1 := by simpa using hN1
        have e2 : u2 = .int .i64 N2 := by simpa using hN2
        have e3 : u3 = .string s3 := by simpa using hs3
        have e4 : u4 = .int .i64 N4 := by simpa using hN4
        have e5 : u5 = .int .i64 N5 := by simpa using hN5
        subst e0; subst e1; subst e2; subst e3; subst e4; subst e5
        refine ⟨(s0, N1, N2, s3, N4, N5), fun j u hu => ?_⟩
        match j, hu with
        | 0, hu => simp [cE] at hu; subst hu; exact hat 0 (by omega)
        | 1, hu => simp [cE] at hu; subst hu; exact hat 1 (by omega)
        | 2, hu => simp [cE] at hu; subst hu; exact hat 2 (by omega)
        | 3, hu => simp [cE] at hu; subst hu; exact hat 3 (by omega)
        | 4, hu => simp [cE] at hu; subst hu; exact hat 4 (by omega)
        | 5, hu => simp [cE] at hu; subst hu; exact hat 5 (by omega)
        | j + 6, hu => simp [cE] at hu
    obtain ⟨l, hll, hp⟩ := list_of n each
    exact ⟨l, some a, c, by rw [hll], by omega, hm, (fun e => by cases e), fun ad ha i x hx j u hu => by
      obtain rfl := Option.some.inj ha
      exact hp i x hx j u hu⟩

set_option maxRecDepth 100000 in
theorem file_of_trod {H : Type} {enc : TypeId × Value → H} {W : World} {base : Nat} {v : Value} {d : DataW H} {p : List MemPlace} (hv : Value.okWide Tryz.prog W .any base 49 v) (h : DataW.Trod enc Tryz.prog W 0 (fun _ => true) true 49 v d p) :
    ∃ f : Fl, v = .agg #[.string f.1, .int .i64 f.2.1, .string f.2.2] ∧ f.1.size ≤ 9223372036854775807 ∧ f.2.2.size ≤ 9223372036854775807 := by
  obtain ⟨cs, rfl, hs⟩ := okWide_struct Tryz.underlying49 hv
  obtain ⟨fuel, hf⟩ := h
  obtain ⟨y0, y1, y2, n2, _, _, h0, h1, h2⟩ := trod_struct3 Tryz.underlying49 hf
  rw [Tryz.cellsF] at hs
  obtain ⟨cl⟩ := cs
  simp at hs
  match cl, hs with
  | [u0, u1, u2], _ =>
    obtain ⟨s0, hs0, _, hb0⟩ := DataW.trod_string Tryz.underlying9 h0
    obtain ⟨N, hN, _, _⟩ := DataW.trod_int Tryz.underlying3 h1
    obtain ⟨s2, hs2, _, hb2⟩ := DataW.trod_string Tryz.underlying9 h2
    have c3 : Tryz.prog.cellsOf 3 = 1 := by kernel_rfl
    have c9 : Tryz.prog.cellsOf 9 = 1 := by kernel_rfl
    rw [show Tryz.prog.cellsOf 9 = 1 from c9] at hs0 hs2
    rw [show Tryz.prog.cellsOf 3 = 1 from c3] at hN
    have e0 : u0 = .string s0 := by simpa [Value.cells] using hs0
    have e1 : u1 = .int .i64 N := by simpa [Value.cells] using hN
    have e2 : u2 = .string s2 := by simpa [Value.cells] using hs2
    unfold maxLen at hb0 hb2
    exact ⟨(s0, N, s2), by rw [e0, e1, e2], hb0, hb2⟩
end Go.Proofs.YtapcnmnnichamaaGreatDoor
