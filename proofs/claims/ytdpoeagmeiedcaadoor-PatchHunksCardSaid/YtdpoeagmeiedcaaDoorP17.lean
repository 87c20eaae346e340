/-
  An argument that is a row of hunks.
-/
import Derived.Test.YtdpoeagmeiedcaaDoorStrArgsK
import Derived.Test.YtdpoeagmeiedcaaDoorP1
import Derived.OpenShut
import Derived.ChangeSame
import Derived.Deep.Slices
import Derived.Lib.SmallJoins
namespace Go.Proofs.YtdpoeagmeiedcaaDoor
open Go.ChangeShapes Go.WideShapes Go.ChangeAt Go.RowKit Go.Deep Go.Joins

theorem Tryd.cellsHk : Tryd.prog.cellsOf 64 = 5 := by kernel_rfl
theorem Tryd.cellsEd : Tryd.prog.cellsOf 66 = 2 := by kernel_rfl
theorem list_ofH {α : Type} {P : Nat → α → Prop} : ∀ n : Nat, (∀ i, i < n → ∃ x, P i x) → ∃ l : List α, l.length = n ∧ ∀ i x, l[i]? = some x → P i x
  | 0, _ => ⟨[], rfl, fun i x h => by simp at h⟩
  | n + 1, h => by
    obtain ⟨l, hl, hp⟩ := list_ofH n (fun i hi => h i (by omega))
    obtain ⟨x, hx⟩ := h n (by omega)
    refine ⟨l ++ [x], by simp [hl], fun i y hy => ?_⟩
    rcases Nat.lt_or_ge i n with hi | hi
    · rw [List.getElem?_append_left (by omega)] at hy
      exact hp i y hy
    · rw [List.getElem?_append_right (by omega), hl] at hy
      have : i - n = 0 := by
        have := (List.getElem?_eq_some_iff.1 hy).1
        simp at this; omega
      rw [this] at hy
      simp at hy
      rw [show i = n by omega, ← hy]; exact hx
section
variable {H : Type} {enc : TypeId × Value → H} {P : Program} {w : World} {base : Nat} {spare : Nat → Bool} {held : Bool}
theorem trod_struct5 {t : TypeId} {f0 f1 f2 f3 f4 : Field} {fuel : Nat} {cs : List Value} {x : DataW H × List MemPlace} (ht : P.underlying t = some (.struct #[f0, f1, f2, f3, f4])) (h : DataW.trod enc P w base spare held fuel t cs = some x) :
    ∃ y0 y1 y2 y3 y4 n, cs.length = P.cellsOf t ∧ DataW.trod enc P w base spare held n f0.type ((cs.drop f0.offset).take (P.cellsOf f0.type)) = some y0 ∧
      DataW.trod enc P w base spare held n f1.type ((cs.drop f1.offset).take (P.cellsOf f1.type)) = some y1 ∧ DataW.trod enc P w base spare held n f2.type ((cs.drop f2.offset).take (P.cellsOf f2.type)) = some y2 ∧
      DataW.trod enc P w base spare held n f3.type ((cs.drop f3.offset).take (P.cellsOf f3.type)) = some y3 ∧ DataW.trod enc P w base spare held n f4.type ((cs.drop f4.offset).take (P.cellsOf f4.type)) = some y4 := by
  obtain ⟨xs, n, _, rfl, hl, hlen, hf⟩ := DataW.trod_struct ht h
  match xs, hlen with
  | [y0, y1, y2, y3, y4], _ => exact ⟨y0, y1, y2, y3, y4, n, hl, by simpa using hf 0 f0 rfl, by simpa using hf 1 f1 rfl, by simpa using hf 2 f2 rfl, by simpa using hf 3 f3 rfl, by simpa using hf 4 f4 rfl⟩
end

set_option maxRecDepth 100000 in
theorem eds_of_cells {H : Type} {enc : TypeId × Value → H} {W : World} {u : Value} {fuel : Nat} {x : DataW H × List MemPlace} (hf : DataW.trod enc Tryd.prog W 0 (fun _ => true) true fuel 25 [u] = some x) :
    ∃ l : List EdI, Reads 2 cEd W u l := by
  rcases open_slice Tryd.underlying25 hf with ⟨hcs, _⟩ | ⟨a, n, c, m, n1, D, Pl, hcs, _, hl, hm, hmm, _, hi⟩
  · simp at hcs
    subst hcs
    exact ⟨[], Reads.nil W⟩
  · simp at hcs
    subst hcs
    have each : ∀ i, i < n → ∃ x : EdI, ∀ (j : Nat) (u : Value), (cEd x)[j]? = some u → W.cell? (adr a i 2 j) = some u := fun i hin => by
      obtain ⟨cs', hc, ht⟩ := hi i (by rw [hmm]; split <;> omega)
      rw [Tryd.cellsEd] at hc
      obtain ⟨_, hcl, hat⟩ := World.cells?_some hc
      obtain ⟨y0, y1, n2, _, _, h0, h1⟩ := trod_struct2 Tryd.underlying66 ht
      match cs', hcl with
      | [u0, u1], _ =>
        obtain ⟨N, hN, _, _⟩ := DataW.trod_int Tryd.underlying3 h0
        obtain ⟨s, hs, _, _⟩ := DataW.trod_string Tryd.underlying9 h1
        have c3 : Tryd.prog.cellsOf 3 = 1 := by kernel_rfl
        have c9 : Tryd.prog.cellsOf 9 = 1 := by kernel_rfl
        have e0 : u0 = .int .i64 N := by
          have := hN
          rw [show Tryd.prog.cellsOf 3 = 1 from c3] at this
          simpa using this
        have e1 : u1 = .string s := by
          have := hs
          rw [show Tryd.prog.cellsOf 9 = 1 from c9] at this
          simpa using this
        subst e0; subst e1
        refine ⟨(N, s), fun j u hu => ?_⟩
        match j, hu with
        | 0, hu => simp [cEd] at hu; subst hu; exact hat 0 (by omega)
        | 1, hu => simp [cEd] at hu; subst hu; exact hat 1 (by omega)
        | j + 2, hu => simp [cEd] at hu
    obtain ⟨l, hll, hp⟩ := list_ofH n each
    exact ⟨l, some a, c, by rw [hll], by omega, hm, (fun e => by cases e), fun ad ha i x hx j u hu => by
      obtain rfl := Option.some.inj ha
      exact hp i x hx j u hu⟩

set_option maxRecDepth 100000 in
theorem hunks_of_trod {H : Type} {enc : TypeId × Value → H} {W : World} {base : Nat} {v : Value} {d : DataW H} {p : List MemPlace} (hv : Value.okWide Tryd.prog W .any base 50 v) (h : DataW.Trod enc Tryd.prog W 0 (fun _ => true) true 50 v d p) :
    ∃ l : List Hk, HksIn W v l := by
  obtain ⟨A, n, c, rfl⟩ := okWide_slice Tryd.underlying50 hv
  obtain ⟨fuel, hf⟩ := h
  rcases open_slice Tryd.underlying50 hf with ⟨hcs, _⟩ | ⟨a, n', c', m, n1, D, Pl, hcs, _, hl, hm, hmm, _, hi⟩
  · simp [Value.cells] at hcs
    obtain ⟨rfl, rfl, rfl⟩ := hcs
    exact ⟨[], HksIn.nil W⟩
  · simp [Value.cells] at hcs
    obtain ⟨rfl, rfl, rfl⟩ := hcs
    have each : ∀ i, i < n → ∃ x : Hk, ∃ vl, W.cell? (adr a i 5 0) = some (.int .i64 x.at_) ∧ W.cell? (adr a i 5 1) = some (.int .i64 x.del) ∧ W.cell? (adr a i 5 2) = some (.int .i64 x.to_) ∧ W.cell? (adr a i 5 3) = some (.int .i64 x.add) ∧ W.cell? (adr a i 5 4) = some vl ∧ Reads 2 cEd W vl x.ls := fun i hin => by
      obtain ⟨cs', hc, ht⟩ := hi i (by rw [hmm]; split <;> omega)
      rw [Tryd.cellsHk] at hc
      obtain ⟨_, hcl, hat⟩ := World.cells?_some hc
      obtain ⟨y0, y1, y2, y3, y4, n2, _, h0, h1, h2, h3, h4⟩ := trod_struct5 Tryd.underlying64 ht
      match cs', hcl with
      | [u0, u1, u2, u3, u4], _ =>
        obtain ⟨N0, hN0, _, _⟩ := DataW.trod_int Tryd.underlying3 h0
        obtain ⟨N1, hN1, _, _⟩ := DataW.trod_int Tryd.underlying3 h1
        obtain ⟨N2, hN2, _, _⟩ := DataW.trod_int Tryd.underlying3 h2
        obtain ⟨N3, hN3, _, _⟩ := DataW.trod_int Tryd.underlying3 h3
        have c3 : Tryd.prog.cellsOf 3 = 1 := by kernel_rfl
        have c25 : Tryd.prog.cellsOf 25 = 1 := by kernel_rfl
        rw [show Tryd.prog.cellsOf 3 = 1 from c3] at hN0 hN1 hN2 hN3
        have e0 : u0 = .int .i64 N0 := by simpa using hN0
        have e1 : u1 = .int .i64 N1 := by simpa using hN1
        have e2 : u2 = .int .i64 N2 := by simpa using hN2
        have e3 : u3 = .int .i64 N3 := by simpa using hN3
        have e4 : DataW.trod enc Tryd.prog W 0 (fun _ => true) true n2 25 [u4] = some y4 := by
          have := h4
          simp only [c25] at this
          simpa using this
        obtain ⟨ls, hls⟩ := eds_of_cells e4
        subst e0; subst e1; subst e2; subst e3
        exact ⟨⟨N0, N1, N2, N3, ls⟩, u4, hat 0 (by omega), hat 1 (by omega), hat 2 (by omega), hat 3 (by omega), hat 4 (by omega), hls⟩
    obtain ⟨l, hll, hp⟩ := list_ofH n each
    exact ⟨l, some a, c, by rw [hll], by omega, hm, (fun e => by cases e), fun ad ha i x hx => by
      obtain rfl := Option.some.inj ha
      exact hp i x hx⟩
end Go.Proofs.YtdpoeagmeiedcaaDoor
